import PyProof.Rows.All
import Wide.All
import OpenK.AllK
import Wide.FinOn
import HandS.Base
import HandS.Call
import HandS.Ends
import HandS.List
import PyProof.ListStr
import PyProof.CollectStr
import PyProof.ReprRoads
import HandS.ForMost
import HandS.Walk
import HandS.Wide
import HandS.Strs
import HandS.DictComp
import HandS.Exc
import HandS.ExcOwn
import HandS.ExcInit
import HandS.ExcField
import HandS.ExcIs
import HandS.WordsExc
import KE.KExcInit
import PyProof.ExcBaseAll.LookupError
import HandS.SortRule
import PySem.Challenge.RW_bandprint_k05_whole_passes_add_up
import HandS.IsInst
import HandS.More
import HandS.MakeKwOnly
import HandS.Defaults
import HandS.Deep
import PyProof.P3Eq
import HandS.Iter
import HandS.Gcd
import HandS.Style
set_option Elab.async false
set_option linter.all false
set_option maxRecDepth 100000
/-! Defs that are called where no display of a container is under way (so repr of lists and tuples is known). -/
namespace Bp
open PySem PySem.Spec PyProof.Rows L2

/-- room, and no display under way -/
structure RoomG (k : Nat) (A : Around) : Prop where
  room : Room k A
  quiet : A.guards = some []
theorem RoomG.le {j k : Nat} {A : Around} (r : RoomG k A) (h : j ≤ k) : RoomG j A := ⟨r.room.mono h, r.quiet⟩
theorem RoomG.down {k : Nat} {A : Around} (r : RoomG (k + 1) A) (env : Env) : RoomG k (A.deeper env) := ⟨r.room.deeper env, r.quiet⟩

/-- a def's promise there -/
structure FnG (P : Program) (w : World) (K : PySem.W.Frag) (mg : Str → Option Value) (base : Heap) (CX : CXT) (k : Nat) (f : Addr) (fd : FuncData) (ps : List Str) (sp : Sp) : Prop where
  count : ∀ vs H Q E, sp vs H Q E → vs.length = ps.length
  goes : ∀ (A : Around) (outer : List Env) (s : Shared) (H : Hp) (args : Args) (us : List Value) (vs : List V) (Q : VK) (E : XK),
    RoomG k A → Env0 P w K mg base A outer s H → BindsTo s fd args (ps.zip us) → Vals vs us → sp vs H Q E →
      codeAny (model P w) A (.call (.ref f) args) (CR CX outer P w H s Q E) s
section
variable {P : Program} {w : World} {K : PySem.W.Frag} {mg : Str → Option Value} {base : Heap} {CX : CXT} {k : Nat} {f : Addr} {fd : FuncData} {ps : List Str} {sp : Sp}
/-- each def's promise holds there, too -/
theorem FnG.of (F : FnOk P w K mg base CX k f fd ps sp) : FnG P w K mg base CX k f fd ps sp :=
  ⟨F.len, fun A outer s H args us vs Q E r => F.run A outer s H args us vs Q E r.room⟩
theorem FnG.le {j : Nat} (F : FnG P w K mg base CX j f fd ps sp) (h : j ≤ k) : FnG P w K mg base CX k f fd ps sp :=
  ⟨F.count, fun A outer s H args us vs Q E r => F.goes A outer s H args us vs Q E (r.le h)⟩

/-- the rule: a def of the text by its body -/
theorem fnG_of {name qual : Str} {params : Arguments} {body : List Stmt} {scope : Scope} {dV kV doc pm cdv ct oc : Value} {an od : Option Addr} {osl : Array (Option Value)} {N : List Str}
    (there : K.lookup f = some ⟨oc, od, .func (PySem.W.fnOf name qual params body scope dV kV doc pm an cdv ct), osl⟩)
    (code : PySem.W.codeIn K cdv qual = true) (S : FnScope N ps scope) (count : ∀ vs H Q E, sp vs H Q E → vs.length = ps.length)
    (goes : ∀ (A : Around) (outer : List Env) (s : Shared) (H : Hp) (vs : List V) (Q : VK) (E : XK),
      RoomG k (A.deeper (envOfC qual scope s.heap.objs.size f cdv)) → sp vs H Q E →
        ∃ t, PSs (cxOf CX P w K mg base N qual scope f cdv A outer s H E) body t ∧ t { nx := fun _ H' => Q .non H', rt := Q } (start N vs) H) :
    FnG P w K mg base CX (k + 1) f (PySem.W.fnOf name qual params body scope dV kV doc pm an cdv ct) ps sp := by
  constructor
  · exact count
  · intro A outer s H args us vs Q E r e0 bind rv hsp
    have n := count _ _ _ _ hsp
    have old : ∀ b o, base.get? b = some o → s.heap.get? b = some o := fun b o e => (e0.bs b o e).1
    have inH : K.In s.heap := e0.mod.kin.keeps old
    have kinds : ∀ y ∈ ps.zip us, scope.names.lookup y.1 = some .local ∨
        (scope.names.lookup y.1 = some .cell ∧ ((cellsFrom (s.heap.objs.size + 1) scope.names []).lookup y.1).isSome = true) := by
      rintro ⟨x, v⟩ hy
      exact (S.par x (List.of_mem_zip hy).1).elim .inl fun q => .inr ⟨q, PySem.W.cellsFrom_some _ _ _ (.inl q)⟩
    refine codeAny_call_function r.room.depth (inH _ _ there) rfl S.co S.gen rfl (PySem.W.codeRec_of inH code) (bind _ _ _ _ ?_)
    refine wpAny_newFunctionEnv_cells S.kind kinds fun env he s1 x => ?_
    subst he
    refine ⟨(e0.mod.nolimit.keeps old).keeps x.toInCall.keep, codeAny_func ?_⟩
    obtain ⟨t, ht, hq⟩ := goes A outer s H vs Q E (r.down _) hsp
    have I := inv_start (CX := CX) (E := E) (cd := cdv) S r.room.hd e0 n rv x
    refine wpAny_mono (ht.run [] s1 (start N vs) H _ I hq) ?_ fun _ _ z => z
    intro fl s' z
    match fl, z with
    | .ret u, z =>
      obtain ⟨v, _, H', J, rv, q⟩ := z
      exact ⟨v, H', J.os, J.bare, J.base, J.hok, rv, q⟩
    | .next, z =>
      obtain ⟨_, H', J, q⟩ := z
      exact ⟨V.non, H', J.os, J.bare, J.base, J.hok, rfl, q⟩
    | .brk, z =>
      obtain ⟨_, _, _, q⟩ := z
      exact q.elim
    | .cont, z =>
      obtain ⟨_, _, _, q⟩ := z
      exact q.elim
end

section
variable {X : Cx} {CX : CXT} {k : Nat} {f : Addr} {fd : FuncData} {ps : List Str} {sp : Sp} {dvs : List V} {ds : List Value} {E : XK} {x : Str} {p pos : Pos} {e : Expr} {es : List Expr} {t : TA}
theorem go_fnG {pins : List (Addr × Obj)} {σ : L2.St} {H : Hp} {s : Shared} {Q : VK} {us : List Value} {vs : List V}
    (F : FnG X.prog X.w X.K X.mg X.base CX k f fd ps sp) (r : RoomG k X.A) (hb : Binds X.K fd ps ds) (hd : Vals dvs ds) (hx : Passes CX X E)
    (I : Inv X pins σ H s) (rv : Vals vs us) (h : sp (vs ++ dvs) H Q E) : wpAny (model X.prog X.w) X.A (call (.ref f) us) (EP X pins σ Q) X.xe s := by
  have both : Vals (vs ++ dvs) (us ++ ds) := rv.append hd
  have n : (us ++ ds).length = ps.length := both.length.symm.trans (F.count _ _ _ _ h)
  have run := F.goes X.A X.stack s H ⟨us, []⟩ (us ++ ds) (vs ++ dvs) Q E r I.env0 (hb s us I.kIn n) both h
  refine wpAny_call (codeAny_mono run ?_)
  intro res s' z
  match res, z with
  | .error er, z => exact hx pins σ H s er s' I z
  | .ok (.ret u), z => exact I.after z
  | .ok .next, z => exact z.elim
  | .ok .brk, z => exact z.elim
  | .ok .cont, z => exact z.elim
/-- f(e, ..) there -/
theorem pe_callG (F : FnG X.prog X.w X.K X.mg X.base CX k f fd ps sp) (r : RoomG k X.A) (hg : Gl X x) (hm : X.mg x = some (.ref f)) (kept : PySem.W.keepIn X.K (.ref f) = true)
    (hb : Binds X.K fd ps ds) (hd : Vals dvs ds) (hx : Passes CX X E) (ha : PA X (e :: es) t) (nd : (x == ("__debug__" : Str)) = false := by decide)
    (star : starEach (e :: es) X.env = (false, eval e X.env) :: starEach es X.env := by rfl) (plain : (backTo pos (starEach es X.env)).any (·.1) = false := by rfl) :
    PE X (.Call (.Name x p) (e :: es) [] pos) (tCall sp dvs E t) := by
  constructor
  intro pins s σ H Q I h
  apply wpAny_Call_Name_kw
  refine ld_glob I hg hm ?_ nd
  refine PySem.W.callWith_K (h₀ := X.base) I.ok.mod.kin kept ?_ star plain
  refine thn (ha.run pos pins s σ H _ I h) ?_
  rintro us s1 ⟨vs, H1, I1, rv, q⟩
  exact ⟨I1.kIn, go_fnG F r hb hd hx I1 rv q⟩
end

/-! ### the law's own call -/
/-- what is tracked where only the script is: nothing, or the script itself -/
def lone (a : Addr) (o : Obj) (xs : List V) (free : Bool) : Hp := fun b => if b = a ∧ free = true then some (.frz o (.lst xs)) else none
theorem lone_some {a b : Addr} {o : Obj} {xs : List V} {free : Bool} {u : HO} (h : lone a o xs free b = some u) : b = a ∧ free = true ∧ u = .frz o (.lst xs) := by
  unfold lone at h
  by_cases c : b = a ∧ free = true
  · rw [if_pos c] at h
    exact ⟨c.1, c.2, (Option.some.inj h).symm⟩
  · rw [if_neg c] at h
    cases h
theorem lone_only {a : Addr} {o : Obj} {xs : List V} {free : Bool} : Only (lone a o xs free) := fun b => by
  unfold lone
  by_cases c : b = a ∧ free = true
  · exact .inr ⟨o, xs, if_pos c⟩
  · exact .inl (if_neg c)
theorem lone_none {a b : Addr} {o : Obj} {xs : List V} {free : Bool} (h : ¬ (b = a ∧ free = true)) : lone a o xs free b = none := if_neg h

theorem callG {P : Program} {w : World} {K : PySem.W.Frag} {mg mb : Str → Option Value} {CX : CXT} {k : Nat} {fa a : Addr} {fd : FuncData} {x : Str} {sp : Sp} {s₁ : Shared} {vs : List Value} {ns : List Int}
    (KX : K.In s₁.heap) (hns : s₁.heap.Ns mainGlobals mg) (hb : s₁.heap.Ns builtinsNs mb) (names : ∀ x : Str, x ≠ "__name__" → mb x = bootBuiltins x) (wide : s₁.heap.NoLimit) (hg : s₁.gens = #[])
    (ha : s₁.heap.get? a = some { cls := .type "list", data := .seq vs.toArray }) (hi : IntsAre vs ns) (hl : ns.length ≤ sizeLine) (hr : RoomG k callerA)
    (F : ∀ base : Heap, K.In base → base.Ns mainGlobals mg → FnG P w K mg base CX k fa fd [x] sp) (bind : ∀ (s : Shared) (u : Value), BindsTo s fd ⟨[u], []⟩ [(x, u)])
    (asked : ∀ H : Hp, Only H → SqL K H a (ns.map V.int) → sp [.ref a] H (fun v _ => v = .bl true) fun _ _ _ => False)
    (none_out : ∀ H e s', CX [] H s₁ (fun _ _ _ => False) e s' → False) :
    codeAny (model P w) callerA (.call (.ref fa) ⟨[.ref a], []⟩) (fun r s' => r = .ok (.ret (.bool true)) ∧ OldK s₁.heap s'.heap ∧ s'.os = s₁.os ∧ AllBare s'.gens) s₁ := by
  have rv := vals_ints hi
  have size := hi.length
  have held : (ns.map V.int).length ≤ sizeLine := by rw [List.length_map]; exact hl
  -- the script is tracked where the module doesn't know it
  let script : Obj := { cls := .type "list", data := .seq vs.toArray }
  let free : Bool := (K.lookup a).isNone
  let H : Hp := lone a script (ns.map V.int) free
  have hok : HOk P w H s₁.heap := fun b u e => by
    obtain ⟨rfl, _, rfl⟩ := lone_some e
    exact ⟨ha, held, vs, _, rv, ha⟩
  have seq : SqL K H a (ns.map V.int) := by
    cases q : K.lookup a with
    | none =>
      exact .inl (.inr ⟨script, if_pos ⟨rfl, by show (K.lookup a).isNone = true; rw [q]; rfl⟩⟩)
    | some o =>
      have z := KX a o q
      rw [ha] at z
      cases z
      exact .inr ⟨_, vs.toArray, _, q, rfl, rfl, rfl, by rw [List.size_toArray, size]; exact hl, by simpa using rv⟩
  have offK : ∀ b o, K.lookup b = some o → H b = none := fun b o e => lone_none fun ⟨c1, c2⟩ => by
    rw [c1] at e
    have c3 : (K.lookup a).isNone = true := c2
    rw [e] at c3
    cases c3
  have offD : ∀ {b : Addr} {o : Obj} {es : Array DictEntry} {ep : Nat}, s₁.heap.get? b = some o → o.data = .dict es ep → H b = none := fun {b o es ep} e d => lone_none fun ⟨c1, _⟩ => by
    rw [c1, ha] at e
    cases e
    cases d
  have nsB : ∀ {b : Addr} {m : Str → Option Value}, s₁.heap.Ns b m → (hidT s₁.heap H).Ns b m := by
    rintro b m ⟨o, es, ep, e, d, r⟩
    exact ⟨o, es, ep, hidT_get e (offD e d), d, r⟩
  have inB : K.In (hidT s₁.heap H) := fun b o e => hidT_get (KX b o e) (offK b o e)
  obtain ⟨mc, w1, w2⟩ := wide
  have mod : Mod K mg (hidT s₁.heap H) := ⟨inB, nsB hns, ⟨mb, nsB hb, names⟩, ⟨mc, nsB w1, w2⟩⟩
  have none_in : ∀ b : Addr, b ∉ frs ([] : List Env) := fun b z => by
    have z' : b ∈ ([] : List Addr) := z
    cases z'
  have e0 : Env0 P w K mg (hidT s₁.heap H) callerA [] s₁ H :=
    { frames := rfl, mod := mod, bs := fun b o e => of_hidT e, bsz := Nat.le_of_eq (hidT_size _ _), funs := trivial, frf := fun b z => (none_in b z).elim, hok := hok, bare := .of_eq hg }
  have run := (F _ inB (nsB hns)).goes callerA [] s₁ H ⟨[.ref a], []⟩ [.ref a] [.ref a] _ _ hr e0 (bind s₁ (.ref a)) (.cons rfl .nil) (asked H lone_only seq)
  refine codeAny_mono run ?_
  intro r s' z
  match r, z with
  | .error er, z => exact (none_out H er s' z).elim
  | .ok .next, z => exact z.elim
  | .ok .brk, z => exact z.elim
  | .ok .cont, z => exact z.elim
  | .ok (.ret u), z =>
    obtain ⟨v, H', os, bare, un, hok', r', q⟩ := z
    cases (show v = .bl true from q)
    cases (show u = Value.bool true from r')
    refine ⟨rfl, OldK.of_keep fun b o e => ?_, os, bare⟩
    cases c : H b with
    | none => exact un.keep b o e c (none_in b) (by simp)
    | some u =>
      obtain ⟨rfl, _, rfl⟩ := lone_some c
      have after := hok' b _ (un.frzs b _ _ c)
      rw [ha] at e
      cases e
      exact after.1

/-- the goal that the head leaves, from the law's promise -/
theorem walkG {l : PySem.W.OpenLaw} {n k : Nat} {q : Program} {loose : List Str} {XP : (Str → Option Value) → Heap → Prop} {YP : World → Heap → Prop} {d : DefRec} {K : Params → PySem.W.Frag} {CX : World → CXT} {sp : World → Sp} {x : Str}
    (most : l.most = some n) (small : n ≤ sizeLine) (plain : d.params.defaults = []) (hr : RoomG k callerA) (inK : ∀ (w : World) (h : Heap), YP w h → (K w.params).In h)
    (F : ∀ (w : World) (mg : Str → Option Value) (fa : Addr) (h : Heap), (K w.params).In h → h.Ns mainGlobals mg → mg d.name = some (.ref fa) →
      ∃ fd : FuncData, (∀ (s : Shared) (u : Value), BindsTo s fd ⟨[u], []⟩ [(x, u)]) ∧
        ∀ base : Heap, (K w.params).In base → base.Ns mainGlobals mg → FnG l.prog w (K w.params) mg base (CX w) k fa fd [x] (sp w))
    (asked : ∀ (w : World) (H : Hp) (a : Addr) (ns : List Int), ns.length ≤ n → Only H → SqL (K w.params) H a (ns.map V.int) → sp w [.ref a] H (fun v _ => v = .bl true) fun _ _ _ => False)
    (none_out : ∀ (w : World) (H : Hp) (s : Shared) (e : Value) (s' : Shared), CX w [] H s (fun _ _ _ => False) e s' → False) :
    PySem.W.WalkO q loose XP YP l.row.toRowW d [] (fun f vs => PySem.call f vs) := by
  apply Att.attach_call most plain
  intro w s₀ s₁ mg mb fa o pm cd doc a vs ns G Y ho hd hcd hmg hobj hints hlen hg
  have KX := inK w _ Y
  obtain ⟨fd, bind, hF⟩ := F w mg fa _ KX G.T.g hmg
  refine callG KX G.T.g G.T.b G.T.builtins G.T.nolimit hg hobj hints (Nat.le_trans hlen small) hr hF bind ?_ ?_
  · intro H only seq
    exact asked w H a ns hlen only seq
  · intro H e s' z
    exact none_out w H s₁ e s' z
theorem roomG_caller {k : Nat} (r : Room k callerA) : RoomG k callerA := ⟨r, rfl⟩
end Bp
set_option Elab.async false
set_option linter.all false
set_option maxRecDepth 100000
/-! Texts as lists of codes; maps of signs as lists; what two ways of reckoning them have in common. -/
namespace Bp
open PySem

/-! ### texts -/
def tx (l : List Nat) : Str := ⟨l.toArray⟩
theorem tx_len (l : List Nat) : (tx l).length = l.length := by unfold tx Str.length; simp
theorem tx_list (l : List Nat) : (tx l).cps.toList = l := by unfold tx; simp
theorem tx_cps (z : Str) : tx z.cps.toList = z := by
  obtain ⟨a⟩ := z
  unfold tx
  simp
theorem tx_inj {a b : List Nat} (h : tx a = tx b) : a = b := by
  have e := congrArg (fun z : Str => z.cps.toList) h
  rw [← tx_list a, ← tx_list b]
  exact e
theorem tx_one (c : Nat) : (⟨#[c]⟩ : Str) = tx [c] := rfl
theorem tx_nil : ("" : Str) = tx [] := by decide
theorem str_ext {a b : Str} (h : a.cps.toList = b.cps.toList) : a = b := by
  rw [← tx_cps a, ← tx_cps b, h]
theorem append_list (a b : Str) : (a ++ b).cps.toList = a.cps.toList ++ b.cps.toList := by
  show (Str.append a b).cps.toList = _
  unfold Str.append
  simp
theorem tx_append (a b : List Nat) : tx a ++ tx b = tx (a ++ b) := str_ext (by rw [append_list, tx_list, tx_list, tx_list])
theorem foldl_empty (l : List Str) : ∀ acc : Array Nat, ((l.foldl (fun acc p => acc ++ (tx []).cps ++ p.cps) acc).toList) = acc.toList ++ (l.map fun p => p.cps.toList).flatten := by
  induction l with
  | nil => intro acc; simp
  | cons p l ih =>
    intro acc
    rw [List.foldl_cons, ih]
    unfold tx
    simp
/-- texts joined by nothing -/
theorem join_empty (l : List Str) : Txt.join (tx []) l = tx (l.map fun p => p.cps.toList).flatten := by
  apply str_ext
  rw [tx_list]
  show (Builtin.Str.glued (tx []) l).cps.toList = _
  unfold Builtin.Str.glued
  rw [foldl_empty]
  cases l with
  | nil => rfl
  | cons a l => rfl
theorem flatten_ones (cs : List Nat) : ((cs.map fun c => tx [c]).map fun p => p.cps.toList).flatten = cs := by
  induction cs with
  | nil => rfl
  | cons c cs ih =>
    rw [List.map_cons, List.map_cons, List.flatten_cons, ih, tx_list]
    rfl
theorem join_ones_tx (cs : List Nat) : Txt.join (tx []) (cs.map fun c => tx [c]) = tx cs := by rw [join_empty, flatten_ones]
theorem ones_weigh (cs : List Nat) : ((cs.map fun c => tx [c]).map (·.length)).sum = cs.length := by
  induction cs with
  | nil => rfl
  | cons c cs ih =>
    rw [List.map_cons, List.map_cons, List.sum_cons, ih, tx_len]
    show 1 + cs.length = cs.length + 1
    omega

/-- a text for each sign -/
def ones (l : List Nat) : List Str := l.map fun c => tx [c]
theorem ones_len (l : List Nat) : (ones l).length = l.length := List.length_map _
theorem ones_sum (l : List Nat) : ((ones l).map (·.length)).sum = l.length := ones_weigh l
theorem ones_join (l : List Nat) : Txt.join (tx []) (ones l) = tx l := join_ones_tx l
theorem ones_snoc (l : List Nat) (c : Nat) : ones (l ++ [c]) = ones l ++ [tx [c]] := by
  unfold ones
  rw [List.map_append]
  rfl

/-! ### the first place of a sign in a text -/
theorem occ_from (l : List Nat) (c : Nat) : ∀ (n i : Nat), i + n = l.length + 1 → (∀ j, j < i → l[j]? ≠ some c) → c ∈ l →
    (forIn (List.range' i n) ((#[] : Array Nat), 0) (StrLaws.occBody (tx l) (tx [c]) l.length 1)).run.fst.toList = [l.idxOf c] := by
  intro n
  have rest : ∀ (k : List Nat) (x : Nat) (f : Nat), (forIn k ((#[x] : Array Nat), f) (StrLaws.occBody (tx l) (tx [c]) l.length 1)).run.fst = #[x] := by
    intro k
    induction k with
    | nil => intro x f; rfl
    | cons a k ih =>
      intro x f
      rw [List.forIn_cons]
      unfold StrLaws.occBody
      rw [if_neg (by
        rintro ⟨⟨⟨h, _⟩, _⟩, _⟩
        simp at h)]
      exact ih x f
  induction n with
  | zero =>
    intro i hi no hc
    obtain ⟨j, hj⟩ := List.mem_iff_getElem?.mp hc
    have lt := (List.getElem?_eq_some_iff.mp hj).1
    exact absurd hj (no j (by omega))
  | succ n ih =>
    intro i hi no hc
    rw [List.range'_succ, List.forIn_cons]
    have one := StrLaws.subAt_one (tx l) c i
    rw [tx_list] at one
    have len : (tx l).length = l.length := tx_len l
    by_cases h : l[i]? = some c
    · obtain ⟨h1, h2⟩ := one.mpr h
      rw [len] at h1
      unfold StrLaws.occBody
      rw [if_pos ⟨⟨⟨by simp, Nat.zero_le _⟩, h1⟩, h2⟩]
      show (forIn (List.range' (i + 1) n) ((#[i] : Array Nat), i + (tx [c]).length) (StrLaws.occBody (tx l) (tx [c]) l.length 1)).run.fst.toList = _
      rw [rest]
      have e : l.idxOf c = i := by
        obtain ⟨lt, e⟩ := List.getElem?_eq_some_iff.mp h
        have le : l.idxOf c ≤ i := by
          rcases Nat.lt_or_ge i (l.idxOf c) with z | z
          · exact absurd e (by
              have := List.not_of_lt_findIdx (p := (· == c)) (xs := l) z
              simpa using this)
          · exact z
        rcases Nat.lt_or_ge (l.idxOf c) i with z | z
        · have hm : l.idxOf c < l.length := List.idxOf_lt_length_of_mem hc
          exact absurd (by rw [List.getElem?_eq_getElem hm, List.getElem_idxOf hm]) (no _ z)
        · omega
      rw [e]
    · have hn : ¬ (i + (tx [c]).length ≤ l.length ∧ Builtin.Str.subAt (tx l) (tx [c]) i = true) := fun z => h (one.mp (by rw [len]; exact z))
      unfold StrLaws.occBody
      rw [if_neg (fun z => hn ⟨z.1.2, z.2⟩)]
      refine ih (i + 1) (by omega) (fun j hj => ?_) hc
      rcases Nat.lt_or_ge j i with z | z
      · exact no j z
      · have : j = i := by omega
        rw [this]
        exact h
theorem occ_first {l : List Nat} {c : Nat} (h : c ∈ l) : Builtin.Str.occurrences (tx l) (tx [c]) 0 (tx l).length 1 = [l.idxOf c] := by
  rw [StrLaws.occ_eq, tx_len]
  exact occ_from l c (l.length + 1 - 0) 0 (by omega) (fun j hj => absurd hj (Nat.not_lt_zero _)) h
end Bp
set_option Elab.async false
set_option linter.all false
set_option maxRecDepth 100000
set_option maxHeartbeats 1000000
/-! Rules that the bundles don't bring: repr, a text so many times, list and sorted of a text. -/
namespace Bp
open PySem PySem.Spec PyProof.Rows L2

/-! ### repr -/
/-- what repr makes of a thing that is no object -/
def shownV : V → Option Str
  | .non => some "None"
  | .bl b => some (if b then "True" else "False")
  | .str z => some (reprText z)
  | .int i => some (toString i)
  | _ => none
/-- .. within bounds -/
def shownFits : V → Prop
  | .str z => (reprText z).length ≤ sizeLine
  | .int i => i.natAbs.log2 < 1920
  | _ => True
section
variable {X : Cx}
theorem call_reprV : CallR X (.builtin "repr") (fun xs H Q => ∃ x z, xs = [x] ∧ shownV x = some z ∧ shownFits x ∧ Q (.str z) H) := by
  intro pins s σ H xs us Q I r h
  obtain ⟨x, z, rfl, hx, fit, q⟩ := h
  obtain ⟨u, rfl, rx⟩ := vals1 r
  cases x with
  | non =>
    cases rx
    cases hx
    exact PySem.P.repr_of_none ⟨.str _, H, I.tok _, ⟨_, rfl⟩, q⟩
  | bl b =>
    cases rx
    cases hx
    exact PySem.P.repr_of_bool ⟨.str _, H, I.tok _, ⟨_, rfl⟩, q⟩
  | str y =>
    obtain ⟨t, rfl⟩ := rx
    cases hx
    exact PySem.P.repr_of_str (hsz := fit) ⟨.str _, H, I.tok _, ⟨_, rfl⟩, q⟩
  | int i =>
    obtain ⟨t, rfl⟩ := rx
    cases hx
    exact PySem.P.repr_of_int fit ⟨.str _, H, I.tok _, ⟨_, rfl⟩, q⟩
  | byt b => cases hx
  | flt b => cases hx
  | ref a => cases hx
  | ty n => cases hx

/-- of a list or tuple, of data: where no display is under way -/
theorem call_reprD (quiet : X.A.guards = some []) (room : X.A.units + 64 < cLine) :
    CallR X (.builtin "repr") (fun xs H Q => ∃ (p : Addr) (d : PyData), xs = [.ref p] ∧ Dp X.K H (.ref p) d ∧ d.showable = true ∧ d.hasDict = false ∧ d.depth ≤ 60 ∧ d.shown.length ≤ sizeLine ∧ Q (.str d.shown) H) := by
  intro pins s σ H xs us Q I r h
  obtain ⟨p, d, rfl, hd, sh, nd, deep, fit, q⟩ := h
  obtain ⟨u, rfl, rx⟩ := vals1 r
  obtain ⟨as, rd⟩ := Dp.reads I d _ u hd rx
  cases rx
  refine repr_of_reads' rd sh (fun z => by rw [nd] at z; cases z) quiet (by omega) (fun _ _ e => e) (fun h' u tk kept => ?_) fit
  exact ⟨.str _, H, I.kept (t' := tk) kept, ⟨_, rfl⟩, q⟩

/-! ### a text so many times -/
def timesS (z : Str) (n : Nat) : Str := ⟨(List.replicate n z.cps).foldl (· ++ ·) #[]⟩
theorem op_mul_str : OpR X (binaryOp .Mult) (fun x y H Q => ∃ (z : Str) (n : Nat), x = .str z ∧ y = .int n ∧ 2 ≤ n ∧ n ≤ 1000 ∧ z.length ≠ 0 ∧ z.length ≤ 1000 ∧ Q (.str (timesS z n)) H) := by
  intro pins s σ H x y v u Q I rx ry h
  obtain ⟨z, n, rfl, rfl, lo, hi, some, short, q⟩ := h
  obtain ⟨t, rfl⟩ := rx
  obtain ⟨t', rfl⟩ := ry
  have ne1 : ¬ ((n : Int) < 1) := by omega
  have c1 : ((n : Int) == 1) = false := by
    rw [beq_eq_false_iff_ne]
    omega
  have c2 : (z.length == 0) = false := beq_eq_false_iff_ne.mpr some
  have c3 : ((n : Int) == 1 || z.length == 0) = false := by rw [c1, c2]; rfl
  have en : (n : Int).toNat = n := Int.toNat_natCast n
  have big : z.length * n ≤ 1000000 := Nat.mul_le_mul short hi
  refine PySem.P.mul_str ?_ ?_ ?_ ?_
  · have a1 : ¬ ((n : Int) < -(2 ^ 63)) := by omega
    have a2 : ¬ ((n : Int) ≥ 2 ^ 63) := by omega
    rw [decide_eq_false a1, decide_eq_false a2]
    rfl
  · intro _ _ g
    have k : (2 ^ 63 - 1 : Int) / n ≥ 1000 := by
      apply Int.le_ediv_of_mul_le (by omega)
      omega
    omega
  · intro _ _
    rw [en]
    unfold PySem.Builtin.Str.tooLong
    apply decide_eq_false
    have e := sizeLine_eq
    omega
  · rw [if_neg ne1, if_neg (by rw [c3]; exact Bool.false_ne_true), en]
    refine ⟨?_, ?_⟩
    · show (timesS z n).length ≤ sizeLine
      have e : (timesS z n).length = n * z.length := by
        unfold timesS Str.length
        have fold : ∀ (m : Nat) (acc : Array Nat), ((List.replicate m z.cps).foldl (· ++ ·) acc).size = acc.size + m * z.cps.size := by
          intro m
          induction m with
          | zero =>
            intro acc
            simp
          | succ m ih =>
            intro acc
            rw [List.replicate_succ, List.foldl_cons, ih, Array.size_append, Nat.succ_mul]
            omega
        rw [fold]
        simp
      rw [e, Nat.mul_comm]
      have e := sizeLine_eq
      omega
    · exact ⟨.str (timesS z n), H, I.tok _, ⟨_, rfl⟩, q⟩

/-! ### list(text), sorted(text) -/
/-- a text's signs, one text each -/
def signsS (z : Str) : List Str := z.cps.toList.map fun c => ⟨#[c]⟩
theorem signs_vals {z : Str} {acc : Array Value} (h : ItemsOf (SignAt z) acc z.cps.size) : Vals ((signsS z).map V.str) acc.toList ∧ StrsAre acc.toList (signsS z) := by
  obtain ⟨n, at_⟩ := h
  have key : ∀ (cs : List Nat) (vs : List Value), vs.length = cs.length → (∀ (j : Nat) (v : Value), vs[j]? = some v → ∃ (c : Nat) (u : Tok), cs[j]? = some c ∧ v = Value.str ⟨#[c]⟩ u) →
      Vals ((cs.map fun c => (⟨#[c]⟩ : Str)).map V.str) vs ∧ StrsAre vs (cs.map fun c => ⟨#[c]⟩) := by
    intro cs
    induction cs with
    | nil =>
      intro vs hl _
      have : vs = [] := List.length_eq_zero_iff.mp hl
      subst this
      exact ⟨.nil, .nil⟩
    | cons c cs ih =>
      intro vs hl hv
      cases vs with
      | nil => cases hl
      | cons v vs =>
        obtain ⟨c', u, e1, e2⟩ := hv 0 v rfl
        cases e1
        subst e2
        obtain ⟨a1, a2⟩ := ih vs (by simpa using hl) fun j w hw => hv (j + 1) w hw
        exact ⟨.cons ⟨u, rfl⟩ a1, .cons _ _ a2⟩
  refine key z.cps.toList acc.toList (by simpa using n) fun j v hv => ?_
  obtain ⟨c, u, e1, e2⟩ := at_ j v (by simpa using hv)
  exact ⟨c, u, by simpa using e1, e2⟩
theorem call_list_text (calm : X.calm = true) : CallR X (.type "list") (fun xs H Q => ∃ z, xs = [.str z] ∧ z.length ≤ sizeLine ∧ ∀ l, H l = none → Q (.ref l) (upd H l (.lst ((signsS z).map V.str)))) := by
  intro pins s σ H xs us Q I r h
  obtain ⟨z, rfl, fit, q⟩ := h
  obtain ⟨u, rfl, t, rfl⟩ := vals1 r
  refine call_list_str (I.ok.hd calm) z t (fun h' tk acc c kept new items => ?_) fit
  have free := I.hok.fresh (Nat.le_refl s.heap.objs.size)
  obtain ⟨rv, _⟩ := signs_vals items
  have n : ((signsS z).map V.str).length ≤ sizeLine := by
    rw [List.length_map]
    unfold signsS
    rw [List.length_map, Array.length_toList]
    exact fit
  exact ⟨.ref s.heap.objs.size, _, I.laid (t' := tk) kept (Nat.le_refl _) (show ObjOk X.prog X.w _ h' _ (.lst ((signsS z).map V.str)) from ⟨n, acc.toList, c, rv, by simpa using new⟩), rfl, q _ free⟩

theorem sorted_kept {h : Heap} {vs : List Value} {out : Array Value} {b : Addr} {o : Obj} (e : h.get? b = some o) : (sortedHeap (h.push (seqObj "list" vs.toArray 0)) h.objs.size vs out).get? b = some o := by
  have ne : b ≠ h.objs.size := Nat.ne_of_lt (Heap.lt_size e)
  unfold sortedHeap
  rw [Heap.get?_update_other _ _ (Ne.symm ne)]
  refine Heap.get?_push_of_some _ (Heap.get?_push_of_some _ ?_)
  rw [Heap.get?_update_other _ _ (Ne.symm ne)]
  exact Heap.get?_push_of_some _ e
theorem sorted_new {h : Heap} {vs : List Value} {out : Array Value} : ∃ n, (sortedHeap (h.push (seqObj "list" vs.toArray 0)) h.objs.size vs out).get? h.objs.size = some (seqObj "list" out n) := by
  have at0 : (h.push (seqObj "list" vs.toArray 0)).get? h.objs.size = some (seqObj "list" vs.toArray 0) := Heap.get?_push_size _ rfl
  have at1 := get?_update_seq at0 (fun _ => #[])
  unfold sortedHeap
  refine ⟨_, get?_update_seq (Heap.get?_push_of_some _ (Heap.get?_push_of_some _ at1)) _⟩
theorem call_sorted_text (calm : X.calm = true) : CallR X (.builtin "sorted") (fun xs H Q => ∃ z, xs = [.str z] ∧ z.length < 64 ∧ ∀ (ys : List Str) (l : Addr), ys.Perm (signsS z) → sortedS ys = true → H l = none → Q (.ref l) (upd H l (.lst (ys.map V.str)))) := by
  intro pins s σ H xs us Q I r h
  obtain ⟨z, rfl, short, q⟩ := h
  obtain ⟨u, rfl, t, rfl⟩ := vals1 r
  have fit : z.cps.size ≤ sizeLine := by
    have e := sizeLine_eq
    have : z.cps.size < 64 := short
    omega
  refine Calls.call_function_entry kind_sorted plain_sorted entry_sorted (args_sorted1 _) ?_
  unfold Builtin.«sorted»
  refine wpAny_bind (m := checkCount "sorted" 1 1 _) (wpAny_pure ?_)
  refine wpAny_bind (wpAny_collect_str (A := X.A.in1) (show X.A.in1.handled = none from I.ok.hd calm) z t (fun s' acc kept eg ed eo items => ?_) fit)
  obtain ⟨hp, g, dr, tk, os⟩ := s'
  obtain ⟨rv, sa⟩ := signs_vals items
  have size : acc.toList.length < 64 := by
    rw [Array.length_toList, items.1]
    exact short
  refine wpAny_bind (wpAny_newList ?_)
  have at0 : (hp.push (seqObj "list" acc.toList.toArray 0)).get? hp.objs.size = some (seqObj "list" acc.toList.toArray 0) := Heap.get?_push_size _ rfl
  show wpAny _ _ _ _ _ (⟨hp.push (seqObj "list" acc.toList.toArray 0), g, dr, tk, os⟩ : Shared)
  refine wpAny_bind (wpAny_holding (wpAny_call_entry slot_list_sort ⟨_, at0, rfl⟩ entry_list_sort (list_sort_treeK strKind_oneLt at0 sa.keysOf (fun v₁ v₂ rest e => keyKind_strs (by rw [← e]; exact sa)) size fun st perm srt => ⟨_, rfl, ?_⟩) (args_list_sort _)))
  refine wpAny_pure ⟨_, rfl, ?_⟩
  obtain ⟨ys, y1, y2, y3⟩ := sorted_out_str sa perm srt
  obtain ⟨n, new⟩ := sorted_new (h := hp) (vs := acc.toList) (out := (arrOf st).map (·.2))
  cases eg
  cases ed
  cases eo
  have I1 : Inv X pins σ H ⟨hp, s.gens, s.drawn, tk, s.os⟩ := I.kept (t' := tk) kept
  have free := I1.hok.fresh (Nat.le_refl hp.objs.size)
  have n64 : (ys.map V.str).length ≤ sizeLine := by
    rw [List.length_map, y2.length_eq]
    unfold signsS
    rw [List.length_map, Array.length_toList]
    exact fit
  refine ⟨.ref hp.objs.size, upd H hp.objs.size (.lst (ys.map V.str)), ?_, rfl, q ys _ y2 y3 free⟩
  exact I1.laid (t' := tk) (h' := sortedHeap (hp.push (seqObj "list" acc.toList.toArray 0)) hp.objs.size acc.toList ((arrOf st).map (·.2))) (a := hp.objs.size) (o := .lst (ys.map V.str))
    (fun b o e => sorted_kept e) (Nat.le_refl _) ⟨n64, ((arrOf st).map (·.2)).toList, n, vals_of_strs y1, by
      rw [Array.toArray_toList]
      exact new⟩
end
end Bp
set_option Elab.async false
set_option linter.all false
set_option maxRecDepth 100000
/-! Comprehensions that make texts of one sign each, and join them. -/
namespace Bp
open PySem PySem.Spec PyProof.Rows L2
theorem same_new {H : Hp} {p : Addr} {o : HO} (h : H p = none) : Same H (upd H p o) := fun b x e => by
  rw [upd_ne (ne_of_none e h)]
  exact e
/-- over any walk: res i is what is made behind i turns; the heap may grow -/
theorem lc_tx {J : It} {n : Nat} {Y : Nat → Hp → V → Hp → Prop} {g : TG} {tt : TT} {te : TE} {vs : List Nat} {σ : L2.St} {H : Hp} {D : Addr} {Qd : Hp → Prop}
    {G : Hp → Prop} (w : Walk J n G Y) (hG : ∀ H1, Same H H1 → G H1) (res : Nat → List Nat) (r0 : res 0 = []) (few : ∀ i, i ≤ n → (res i).length ≤ 1000) (nD : H D = none)
    (step : ∀ i x H1 H2 (Qy : V → Hp → Prop) (Qn : Hp → Prop), i < n → Same H H1 → Y i H1 x H2 → (∀ c H5, Same H1 H5 → res (i + 1) = res i ++ [c] → Qy (.str (tx [c])) H5) → (∀ H5, Same H1 H5 → res (i + 1) = res i → Qn H5) →
      g x (wipe σ vs) H2 fun σ2 H3 => wipe σ2 vs = wipe σ vs ∧ tt σ2 H3 fun b H4 => if b = true then te σ2 H4 Qy else Qn H4)
    (done : ∀ H', Same H H' → H' D = some (.lst ((ones (res n)).map V.str)) → Qd H') :
    ∃ W : Nat → Nat → Hp → Prop, (∃ m, W 0 m (upd H D (.lst []))) ∧ ∀ i m H, W i m H →
      (J.stop i H ∧ Qd H) ∨ (J.go i H ∧ ∃ Nx : Hp → Prop, (∀ H', Nx H' → ∃ m', m' < m ∧ W (i + 1) m' H') ∧ ∀ x H', J.yld i H x H' → g x (wipe σ vs) H' fun σ2 H2 => wipe σ2 vs = wipe σ vs ∧ tt σ2 H2 fun b H3 =>
        if b = true then te σ2 H3 fun y H4 => ∃ acc, H4 D = some (.lst acc) ∧ acc.length < sizeLine ∧ Nx (upd H4 D (.lst (acc ++ [y]))) else Nx H3) := by
  refine lc_it w (fun i H1 => Same H H1 ∧ H1 D = some (.lst ((ones (res i)).map V.str))) ⟨same_new nD, by rw [upd_same, r0]; rfl⟩ (fun i H1 _ z => hG H1 z.1) ?_ ?_
  · intro i x H1 H2 hi z y
    obtain ⟨sm, hD⟩ := z
    refine step i x H1 H2 _ _ hi sm y ?_ ?_
    · intro c H5 s5 e
      refine ⟨_, s5 _ _ hD, ?_, ?_, ?_⟩
      · rw [List.length_map, ones_len]
        exact small1000 (few i (Nat.le_of_lt hi))
      · exact fun b o q => by
          rw [upd_ne (ne_of_none q nD)]
          exact s5 _ _ (sm b o q)
      · rw [upd_same, e, ones_snoc, List.map_append]
        rfl
    · intro H5 s5 e
      exact ⟨sm.trans s5, by rw [e]; exact s5 _ _ hD⟩
  · rintro H1 ⟨sm, hD⟩
    exact done H1 sm hD
/-- no test: the item is kept -/
theorem yes_kept {σ : L2.St} {H : Hp} {A B : Hp → Prop} (h : A H) : tYes σ H fun b H4 => if b = true then A H4 else B H4 := by
  show if true = true then A H else B H
  rw [if_pos rfl]
  exact h
theorem yesOf {c : Bool} {A B : Prop} (hc : c = true) (h : A) : if c = true then A else B := by
  rw [if_pos hc]
  exact h
theorem noOf {c : Bool} {A B : Prop} (hc : c = false) (h : B) : if c = true then A else B := by
  rw [hc, if_neg Bool.false_ne_true]
  exact h
/-! ### lists of texts, and which of them is one -/
def txs (L : List (List Nat)) : List V := L.map fun m => V.str (tx m)
theorem txs_len (L : List (List Nat)) : (txs L).length = L.length := List.length_map _
theorem txs_get {L : List (List Nat)} {i : Nat} {m : List Nat} (h : L[i]? = some m) : (txs L)[i]? = some (.str (tx m)) := by
  unfold txs
  rw [List.getElem?_map, h]
  rfl
theorem txs_snoc (L : List (List Nat)) (m : List Nat) : txs (L ++ [m]) = txs L ++ [.str (tx m)] := by
  unfold txs
  rw [List.map_append]
  rfl
theorem txs_flat (L : List (List Nat)) : (txs L).all flatV = true := by
  unfold txs
  rw [List.all_map]
  exact List.all_eq_true.mpr fun _ _ => rfl
theorem eqV_tx (a b : List Nat) : eqV (.str (tx a)) (.str (tx b)) = decide (a = b) := by
  show (tx a == tx b) = _
  by_cases h : a = b
  · rw [h, decide_eq_true rfl]
    exact beq_self_eq_true _
  · rw [decide_eq_false h]
    exact beq_eq_false_iff_ne.mpr fun e => h (tx_inj e)
theorem inV_txs (m : List Nat) (L : List (List Nat)) : inV (.str (tx m)) (txs L) = decide (m ∈ L) := by
  unfold inV txs
  rw [List.any_map]
  by_cases h : m ∈ L
  · rw [decide_eq_true h]
    refine List.any_eq_true.mpr ⟨m, h, ?_⟩
    show eqV (.str (tx m)) (.str (tx m)) = true
    rw [eqV_tx]
    exact decide_eq_true rfl
  · rw [decide_eq_false h]
    refine List.any_eq_false.mpr fun x hx => ?_
    show ¬ eqV (.str (tx x)) (.str (tx m)) = true
    rw [eqV_tx]
    intro z
    exact h (of_decide_eq_true z ▸ hx)
theorem txs_at {m : List Nat} {L : List (List Nat)} (h : m ∈ L) : (txs L)[L.idxOf m]? = some (.str (tx m)) := by
  have lt := List.idxOf_lt_length_of_mem h
  exact txs_get (by rw [List.getElem?_eq_getElem lt, List.getElem_idxOf lt])
theorem txs_before {m : List Nat} {L : List (List Nat)} (i : Nat) (z : V) (hi : i < L.idxOf m) (e : (txs L)[i]? = some z) : eqV z (.str (tx m)) = false := by
  unfold txs at e
  rw [List.getElem?_map] at e
  cases q : L[i]? with
  | none =>
    rw [q] at e
    cases e
  | some x =>
    rw [q] at e
    cases e
    show eqV (.str (tx x)) (.str (tx m)) = false
    rw [eqV_tx]
    refine decide_eq_false fun z => ?_
    obtain ⟨lt, e2⟩ := List.getElem?_eq_some_iff.mp q
    have := List.not_of_lt_findIdx (p := (· == m)) (xs := L) hi
    rw [e2, z] at this
    simp at this
end Bp
set_option Elab.async false
set_option linter.all false
set_option maxRecDepth 100000
/-! Lists of texts and of numbers as data: whether two are equal. -/
namespace Bp
open PySem PySem.Spec PyProof.Rows L2
/-- small letters, each -/
def Low (l : List Nat) : Prop := ∀ c ∈ l, 97 ≤ c ∧ c ≤ 122
theorem canLay_texts {l : List (List Nat)} (h : ∀ m ∈ l, Low m) : PyData.canLayAll0 (l.map fun m => PyData.str (tx m)) = true := by
  induction l with
  | nil => rw [List.map_nil, PyData.canLayAll0]
  | cons m l ih =>
    rw [List.map_cons, PyData.canLayAll0, ih fun x hx => h x (List.mem_cons_of_mem _ hx), PyData.canLay0, Bool.and_true]
    have lm := h m (List.mem_cons_self ..)
    refine Array.all_eq_true_iff_forall_mem.mpr fun c hc => ?_
    have hc' : c ∈ m := by
      unfold tx at hc
      simpa using hc
    have := (lm c hc').2
    exact decide_eq_true (by omega)
theorem depth_texts (l : List (List Nat)) : PyData.depthAll (l.map fun m => PyData.str (tx m)) = 0 := by
  induction l with
  | nil => rw [List.map_nil, PyData.depthAll]
  | cons m l ih => rw [List.map_cons, PyData.depthAll, ih, PyData.depth]; rfl
theorem shaped_texts {l : List (List Nat)} (h : ∀ m ∈ l, Low m) : SeqAt.shaped (.list (l.map fun m => PyData.str (tx m))) = true := by
  unfold SeqAt.shaped
  rw [PyData.canLay0, canLay_texts h, PyData.depth, depth_texts, Bool.true_and]
  exact decide_eq_true (by decide)
theorem dp_texts {K : PySem.W.Frag} {H : Hp} {a : Addr} {l : List (List Nat)} (h : SqL K H a (l.map fun m => V.str (tx m))) : Dp K H (.ref a) (.list (l.map fun m => PyData.str (tx m))) := by
  refine .lst h ?_
  induction l with
  | nil => exact .nil
  | cons m l ih =>
    have all : ∀ l : List (List Nat), DpAll K H (l.map fun m => V.str (tx m)) (l.map fun m => PyData.str (tx m)) := by
      intro l
      induction l with
      | nil => exact .nil
      | cons m l ih => exact .cons (.str _) ih
    exact all _
theorem eqv_texts : ∀ (a b : List (List Nat)), PyData.eqvAll (a.map fun m => PyData.str (tx m)) (b.map fun m => PyData.str (tx m)) = decide (a = b)
  | [], [] => by rw [List.map_nil, PyData.eqvAll]; rfl
  | [], y :: b => by rw [List.map_nil, List.map_cons, PyData.eqvAll]; rfl
  | x :: a, [] => by rw [List.map_nil, List.map_cons, PyData.eqvAll]; rfl
  | x :: a, y :: b => by
    rw [List.map_cons, List.map_cons, PyData.eqvAll, eqv_texts a b, PyData.eqv]
    by_cases h : x = y
    · subst h
      by_cases h2 : a = b
      · subst h2
        simp
      · have : ¬ x :: a = x :: b := fun e => h2 (List.cons.inj e).2
        rw [decide_eq_false h2, decide_eq_false this, Bool.and_false]
    · have n1 : ¬ x :: a = y :: b := fun e => h (List.cons.inj e).1
      have n2 : (tx x == tx y) = false := beq_eq_false_iff_ne.mpr fun e => h (tx_inj e)
      rw [n2, decide_eq_false n1, Bool.false_and]
end Bp
set_option Elab.async false
set_option linter.all false
set_option maxRecDepth 100000
/-! A dict from which a law draws its digits: its cells, which one is next, what is left of a great one. -/
namespace Bp
open PySem PySem.Spec PyProof.Rows L2
theorem k_ca : ¬ (("cells" : Str) = "at") := by decide +kernel
theorem k_cl : ¬ (("cells" : Str) = "left") := by decide +kernel
theorem k_al : ¬ (("at" : Str) = "left") := by decide +kernel
def feedKvs (c : Addr) (a l : Int) : List (Key × V) := [(.inr "cells", .ref c), (.inr "at", .int a), (.inr "left", .int l)]
theorem inr_ne {x y : Str} (h : ¬ x = y) : ¬ (Sum.inr x : Key) = Sum.inr y := fun e => h (Sum.inr.inj e)
theorem feed_cells (c : Addr) (a l : Int) : valV (feedKvs c a l) (.inr "cells") = some (.ref c) := valV_pos rfl
theorem feed_at (c : Addr) (a l : Int) : valV (feedKvs c a l) (.inr "at") = some (.int a) := by
  unfold feedKvs
  rw [valV_neg (inr_ne k_ca), valV_pos rfl]
theorem feed_left (c : Addr) (a l : Int) : valV (feedKvs c a l) (.inr "left") = some (.int l) := by
  unfold feedKvs
  rw [valV_neg (inr_ne k_cl), valV_neg (inr_ne k_al), valV_pos rfl]
theorem feed_put_at (c : Addr) (a l b : Int) : putK (feedKvs c a l) (.inr "at") (.int b) = feedKvs c b l := by
  unfold putK
  rw [if_pos (by rw [valV_any, feed_at]; rfl)]
  unfold feedKvs
  simp only [List.map_cons, List.map_nil]
  rw [if_neg (inr_ne k_ca), if_pos True.intro, if_neg (inr_ne fun e => k_al e.symm)]
theorem feed_put_left (c : Addr) (a l b : Int) : putK (feedKvs c a l) (.inr "left") (.int b) = feedKvs c a b := by
  unfold putK
  rw [if_pos (by rw [valV_any, feed_left]; rfl)]
  unfold feedKvs
  simp only [List.map_cons, List.map_nil]
  rw [if_neg (inr_ne k_cl), if_neg (inr_ne k_al), if_pos True.intro]
theorem feed_made (c : Addr) (a l : Int) : mergeK [] (feedKvs c a l) = feedKvs c a l := by
  have e1 : putK ([] : List (Key × V)) (.inr "cells") (.ref c) = [(.inr "cells", .ref c)] := putK_new _ rfl
  have e2 : putK ([(.inr "cells", .ref c)] : List (Key × V)) (.inr "at") (.int a) = [(.inr "cells", .ref c), (.inr "at", .int a)] := putK_new _ (by rw [valV_neg (inr_ne k_ca)]; rfl)
  have e3 : putK ([(.inr "cells", .ref c), (.inr "at", .int a)] : List (Key × V)) (.inr "left") (.int l) = feedKvs c a l := putK_new _ (by rw [valV_neg (inr_ne k_cl), valV_neg (inr_ne k_al)]; rfl)
  show putK (putK (putK ([] : List (Key × V)) (.inr "cells") (.ref c)) (.inr "at") (.int a)) (.inr "left") (.int l) = _
  rw [e1, e2, e3]
/-- a feed at f, of which at most n cells have been drawn -/
structure Fed where
  f : Addr
  c : Addr
  ns : List Int
def FeedAt (K : PySem.W.Frag) (H : Hp) (g : Fed) (n : Nat) : Prop :=
  ∃ (a l : Int), H g.f = some (.dK (feedKvs g.c a l)) ∧ SqL K H g.c (g.ns.map V.int) ∧ 0 ≤ a ∧ a ≤ n ∧ 0 ≤ l
/-- all but what is at f is as it was -/
def Kept (f : Addr) (H H' : Hp) : Prop := ∀ b o, b ≠ f → H b = some o → H' b = some o
theorem Kept.refl (f : Addr) (H : Hp) : Kept f H H := fun _ _ _ e => e
theorem Kept.trans {f : Addr} {H H1 H2 : Hp} (a : Kept f H H1) (b : Kept f H1 H2) : Kept f H H2 := fun c o n e => b c o n (a c o n e)
theorem Kept.of {f : Addr} {H H1 : Hp} (a : Same H H1) : Kept f H H1 := fun b o _ e => a b o e
theorem Kept.put {f : Addr} {H : Hp} (o : HO) : Kept f H (upd H f o) := fun b u n e => by
  rw [upd_ne n]
  exact e
theorem Kept.seq {K : PySem.W.Frag} {f a : Addr} {H H1 : Hp} {kvs : List (Key × V)} {xs : List V} (k : Kept f H H1) (hf : H f = some (.dK kvs)) (h : SqL K H a xs) : SqL K H1 a xs := by
  rcases h with (h | ⟨o, h⟩) | h
  · exact .inl (.inl (k _ _ (ne_of h hf (by intro z; cases z)) h))
  · exact .inl (.inr ⟨o, k _ _ (ne_of h hf (by intro z; cases z)) h⟩)
  · exact .inr h
theorem FeedAt.le {K : PySem.W.Frag} {H : Hp} {g : Fed} {n m : Nat} (h : FeedAt K H g n) (le : n ≤ m) : FeedAt K H g m := by
  obtain ⟨a, l, e, s, h0, h1, h2⟩ := h
  exact ⟨a, l, e, s, h0, by omega, h2⟩
theorem FeedAt.same {K : PySem.W.Frag} {H H' : Hp} {g : Fed} {n : Nat} (h : FeedAt K H g n) (s : Same H H') : FeedAt K H' g n := by
  obtain ⟨a, l, e, q, h0, h1, h2⟩ := h
  exact ⟨a, l, s _ _ e, s.seq q, h0, h1, h2⟩
theorem FeedAt.dict {K : PySem.W.Frag} {H : Hp} {g : Fed} {n : Nat} (h : FeedAt K H g n) : ∃ kvs, H g.f = some (.dK kvs) := by
  obtain ⟨a, l, e, _⟩ := h
  exact ⟨_, e⟩
theorem FeedAt.ne {K : PySem.W.Frag} {H : Hp} {g : Fed} {b : Addr} {n : Nat} (h : FeedAt K H g n) (hb : H b = none) : b ≠ g.f := by
  obtain ⟨kvs, e⟩ := h.dict
  exact fun z => by
    rw [z, e] at hb
    cases hb
/-- it lives on where a thing made later is changed -/
theorem FeedAt.put {K : PySem.W.Frag} {H H0 : Hp} {g : Fed} {D : Addr} {n m : Nat} {o : HO} (h0 : FeedAt K H0 g m) (e : H0 D = none) (h : FeedAt K H g n) : FeedAt K (upd H D o) g n := by
  have nf := h0.ne e
  obtain ⟨a, l, ef, s, b0, b1, b2⟩ := h
  obtain ⟨_, _, _, s0, _⟩ := h0
  refine ⟨a, l, by rw [upd_ne (fun z => nf z.symm)]; exact ef, ?_, b0, b1, b2⟩
  rcases s with (s | ⟨o2, s⟩) | s
  · by_cases c : g.c = D
    · rcases s0 with (s0 | ⟨o2, s0⟩) | s0
      · rw [c, e] at s0
        cases s0
      · rw [c, e] at s0
        cases s0
      · exact .inr s0
    · exact .inl (.inl (by rw [upd_ne c]; exact s))
  · by_cases c : g.c = D
    · rcases s0 with (s0 | ⟨o2, s0⟩) | s0
      · rw [c, e] at s0
        cases s0
      · rw [c, e] at s0
        cases s0
      · exact .inr s0
    · exact .inl (.inr ⟨o2, by rw [upd_ne c]; exact s⟩)
  · exact .inr s
/-! ### lists of whole numbers as data -/
theorem dp_ints {K : PySem.W.Frag} {H : Hp} {a : Addr} {ns : List Int} (h : SqL K H a (ns.map V.int)) : Dp K H (.ref a) (.list (ns.map PyData.int)) := by
  have all : ∀ l : List Int, DpAll K H (l.map V.int) (l.map PyData.int) := by
    intro l
    induction l with
    | nil => exact .nil
    | cons m l ih => exact .cons (.int _) ih
  exact .lst h (all ns)
theorem lay_ints (ns : List Int) : PyData.canLayAll0 (ns.map PyData.int) = true := by
  induction ns with
  | nil => rw [List.map_nil, PyData.canLayAll0]
  | cons m l ih => rw [List.map_cons, PyData.canLayAll0, ih, PyData.canLay0]; rfl
theorem depth_ints (ns : List Int) : PyData.depthAll (ns.map PyData.int) = 0 := by
  induction ns with
  | nil => rw [List.map_nil, PyData.depthAll]
  | cons m l ih => rw [List.map_cons, PyData.depthAll, ih, PyData.depth]; rfl
theorem shaped_ints (ns : List Int) : SeqAt.shaped (.list (ns.map PyData.int)) = true := by
  unfold SeqAt.shaped
  rw [PyData.canLay0, lay_ints, PyData.depth, depth_ints, Bool.true_and]
  exact decide_eq_true (by decide)
theorem eqv_nil (ns : List Int) : PyData.eqv (.list (ns.map PyData.int)) (.list []) = decide (ns = []) := by
  cases ns with
  | nil => rw [List.map_nil, PyData.eqv, PyData.eqvAll]; rfl
  | cons m l => rw [List.map_cons, PyData.eqv, PyData.eqvAll]; rfl
theorem get_cells {H : Hp} {f c : Addr} {a l : Int} (e : H f = some (.dK (feedKvs c a l))) : DGet H f (.str "cells") (some (.ref c)) := feed_cells c a l ▸ DGet.k (k := Sum.inr "cells") e
theorem get_at {H : Hp} {f c : Addr} {a l : Int} (e : H f = some (.dK (feedKvs c a l))) : DGet H f (.str "at") (some (.int a)) := feed_at c a l ▸ DGet.k (k := Sum.inr "at") e
theorem get_left {H : Hp} {f c : Addr} {a l : Int} (e : H f = some (.dK (feedKvs c a l))) : DGet H f (.str "left") (some (.int l)) := feed_left c a l ▸ DGet.k (k := Sum.inr "left") e
theorem three_few (c : Addr) (a l : Int) : (feedKvs c a l).length < sizeLine := by show 3 < sizeLine; decide
theorem put_at {H : Hp} {f c : Addr} {a l b : Int} (e : H f = some (.dK (feedKvs c a l))) : DPut H f (.str "at") (.int b) (upd H f (.dK (feedKvs c b l))) := feed_put_at c a l b ▸ DPut.k (k := Sum.inr "at") e (three_few c a l)
theorem put_left {H : Hp} {f c : Addr} {a l b : Int} (e : H f = some (.dK (feedKvs c a l))) : DPut H f (.str "left") (.int b) (upd H f (.dK (feedKvs c a b))) := feed_put_left c a l b ▸ DPut.k (k := Sum.inr "left") e (three_few c a l)
end Bp
set_option Elab.async false
set_option linter.all false
set_option maxRecDepth 100000
/-! Comprehensions of any values over any walk, the heap growing. -/
namespace Bp
open PySem PySem.Spec PyProof.Rows L2
/-- all that is no list stays -/
def Kn (H H' : Hp) : Prop := ∀ b o, (∀ xs, o ≠ HO.lst xs) → H b = some o → H' b = some o
theorem Kn.of {H H' : Hp} (s : Same H H') : Kn H H' := fun b o _ e => s b o e
theorem Kn.refl (H : Hp) : Kn H H := fun _ _ _ e => e
theorem Kn.trans {H H1 H2 : Hp} (a : Kn H H1) (b : Kn H1 H2) : Kn H H2 := fun c o n e => b c o n (a c o n e)
theorem Kn.put {H : Hp} {D : Addr} {xs ys : List V} (e : H D = some (.lst xs)) : Kn H (upd H D (.lst ys)) := fun b o n eb => by
  have ne : b ≠ D := fun z => by
    rw [z, e] at eb
    exact n _ (Option.some.inj eb).symm
  rw [upd_ne ne]
  exact eb
theorem Kn.new {H : Hp} {D : Addr} {o : HO} (e : H D = none) : Kn H (upd H D o) := Kn.of (same_new e)
/-- res i is what is made behind i turns; it hangs on no list -/
theorem lc_v {J : It} {n : Nat} {Y : Nat → Hp → V → Hp → Prop} {g : TG} {tt : TT} {te : TE} {vs : List Nat} {σ : L2.St} {H : Hp} {D : Addr} {Qd : Hp → Prop}
    {G : Hp → Prop} (w : Walk J n G Y) (hG : ∀ H1, Same H H1 → G H1) (res : Nat → Hp → List V → Prop) (r0 : ∀ H1, res 0 H1 []) (few : ∀ i H1 l, i ≤ n → res i H1 l → l.length ≤ 1000) (keep : ∀ i H1 H2 l, Kn H1 H2 → res i H1 l → res i H2 l) (nD : H D = none)
    (step : ∀ i x H1 H2 l (Qy : V → Hp → Prop) (Qn : Hp → Prop), i < n → Same H H1 → res i H1 l → Y i H1 x H2 → (∀ y H5, Same H1 H5 → res (i + 1) H5 (l ++ [y]) → Qy y H5) → (∀ H5, Same H1 H5 → res (i + 1) H5 l → Qn H5) →
      g x (wipe σ vs) H2 fun σ2 H3 => wipe σ2 vs = wipe σ vs ∧ tt σ2 H3 fun b H4 => if b = true then te σ2 H4 Qy else Qn H4)
    (done : ∀ H' l, Same H H' → res n H' l → H' D = some (.lst l) → Qd H') :
    ∃ W : Nat → Nat → Hp → Prop, (∃ m, W 0 m (upd H D (.lst []))) ∧ ∀ i m H, W i m H →
      (J.stop i H ∧ Qd H) ∨ (J.go i H ∧ ∃ Nx : Hp → Prop, (∀ H', Nx H' → ∃ m', m' < m ∧ W (i + 1) m' H') ∧ ∀ x H', J.yld i H x H' → g x (wipe σ vs) H' fun σ2 H2 => wipe σ2 vs = wipe σ vs ∧ tt σ2 H2 fun b H3 =>
        if b = true then te σ2 H3 fun y H4 => ∃ acc, H4 D = some (.lst acc) ∧ acc.length < sizeLine ∧ Nx (upd H4 D (.lst (acc ++ [y]))) else Nx H3) := by
  refine lc_it w (fun i H1 => Same H H1 ∧ ∃ l, H1 D = some (.lst l) ∧ res i H1 l) ⟨same_new nD, [], upd_same, r0 _⟩ (fun i H1 _ z => hG H1 z.1) ?_ ?_
  · rintro i x H1 H2 hi ⟨sm, l, hD, hl⟩ y
    refine step i x H1 H2 l _ _ hi sm hl y ?_ ?_
    · intro v H5 s5 r5
      refine ⟨l, s5 _ _ hD, small1000 (few i _ _ (Nat.le_of_lt hi) hl), fun b o q => ?_, l ++ [v], upd_same, keep _ _ _ _ (Kn.put (s5 _ _ hD)) r5⟩
      rw [upd_ne (ne_of_none q nD)]
      exact s5 _ _ (sm b o q)
    · intro H5 s5 r5
      exact ⟨sm.trans s5, l, s5 _ _ hD, r5⟩
  · rintro H1 ⟨sm, l, hD, hl⟩
    exact done H1 l sm hl hD
/-- a comprehension of tests that all hold, for all(..) -/
theorem lc_true {J : It} {n : Nat} {Y : Nat → Hp → V → Hp → Prop} {g : TG} {te : TE} {vs : List Nat} {σ : L2.St} {H : Hp} {D : Addr} {Qd : Hp → Prop}
    {G : Hp → Prop} (w : Walk J n G Y) (hG : ∀ H1, Same H H1 → G H1) (few : n ≤ 1000) (nD : H D = none)
    (step : ∀ i x H1 H2 (Qy : V → Hp → Prop), i < n → Same H H1 → Y i H1 x H2 → (∀ H5, Same H1 H5 → Qy (.bl true) H5) → g x (wipe σ vs) H2 fun σ2 H3 => wipe σ2 vs = wipe σ vs ∧ te σ2 H3 Qy)
    (done : ∀ H', Same H H' → H' D = some (.lst ((List.replicate n true).map V.bl)) → Qd H')
    (mono : ∀ (v : V) (σ0 : L2.St) (H0 : Hp) (A B : L2.St → Hp → Prop), (∀ s h, A s h → B s h) → g v σ0 H0 A → g v σ0 H0 B) :
    ∃ W : Nat → Nat → Hp → Prop, (∃ m, W 0 m (upd H D (.lst []))) ∧ ∀ i m H, W i m H →
      (J.stop i H ∧ Qd H) ∨ (J.go i H ∧ ∃ Nx : Hp → Prop, (∀ H', Nx H' → ∃ m', m' < m ∧ W (i + 1) m' H') ∧ ∀ x H', J.yld i H x H' → g x (wipe σ vs) H' fun σ2 H2 => wipe σ2 vs = wipe σ vs ∧ tYes σ2 H2 fun b H3 =>
        if b = true then te σ2 H3 fun y H4 => ∃ acc, H4 D = some (.lst acc) ∧ acc.length < sizeLine ∧ Nx (upd H4 D (.lst (acc ++ [y]))) else Nx H3) := by
  refine lc_v w hG (fun i _ l => l = (List.replicate i true).map V.bl) (fun _ => rfl) (fun i _ l hi h => ?_) (fun _ _ _ _ _ h => h) nD ?_ ?_
  · rw [h, List.length_map, List.length_replicate]
    omega
  · intro i x H1 H2 l Qy Qn hi sm hl y qy _
    refine mono _ _ _ _ _ (fun s h z => ⟨z.1, yes_kept z.2⟩) (step i x H1 H2 Qy hi sm y fun H5 s5 => qy _ _ s5 ?_)
    rw [hl, List.replicate_succ', List.map_append]
    rfl
  · intro H' l sm hl hD
    exact done H' sm (hl ▸ hD)
theorem mono_name {i : Nat} : ∀ (v : V) (σ0 : L2.St) (H0 : Hp) (A B : L2.St → Hp → Prop), (∀ s h, A s h → B s h) → gName i v σ0 H0 A → gName i v σ0 H0 B := fun _ _ _ _ _ h z => h _ _ z
theorem all_true (n : Nat) : (List.replicate n true).all id = true := List.all_eq_true.mpr fun x hx => List.eq_of_mem_replicate hx
/-- any loop over a walk: B, what is asked of a turn -/
theorem walk_w {J : It} {n : Nat} {G : Hp → Prop} {Y : Nat → Hp → V → Hp → Prop} {H0 : Hp} {Qd : Hp → Prop} {B : (Hp → Prop) → V → Hp → Prop} (w : Walk J n G Y) (Pv : Nat → Hp → Prop) (h0 : Pv 0 H0) (hG : ∀ i H, i ≤ n → Pv i H → G H)
    (turn : ∀ i x H H', i < n → Pv i H → Y i H x H' → B (Pv (i + 1)) x H') (done : ∀ H, Pv n H → Qd H) :
    ∃ W : Nat → Nat → Hp → Prop, (∃ m, W 0 m H0) ∧ ∀ i m H, W i m H → (J.stop i H ∧ Qd H) ∨ (J.go i H ∧ ∃ Nx : Hp → Prop, (∀ H', Nx H' → ∃ m', m' < m ∧ W (i + 1) m' H') ∧ ∀ x H', J.yld i H x H' → B Nx x H') := by
  refine ⟨fun i m H => i + m = n ∧ Pv i H, ⟨n, Nat.zero_add n, h0⟩, ?_⟩
  rintro i m H ⟨im, p⟩
  have here := hG i H (by omega) p
  by_cases last : m = 0
  · obtain rfl : i = n := by omega
    exact .inl ⟨w.stops H here, done H p⟩
  · exact .inr ⟨w.goes i H (by omega) here, Pv (i + 1), fun H' p' => ⟨m - 1, by omega, by omega, p'⟩, fun x H' y => turn i x H H' (by omega) p (w.yields i H x H' (by omega) here y)⟩
/-! ### values one by one that stand for things -/
def Each {α : Type} (R : Hp → V → α → Prop) (H : Hp) (l : List V) (xs : List α) : Prop := l.length = xs.length ∧ ∀ (i : Nat) v x, l[i]? = some v → xs[i]? = some x → R H v x
section
variable {α : Type} {R : Hp → V → α → Prop} {H H' : Hp} {l m : List V} {xs ys : List α}
theorem Each.nil : Each R H [] [] := ⟨rfl, fun i v x h => by simp at h⟩
theorem Each.snoc (h : Each R H l xs) {v : V} {x : α} (r : R H v x) : Each R H (l ++ [v]) (xs ++ [x]) := by
  refine ⟨by rw [List.length_append, List.length_append, h.1]; rfl, fun i u y hu hy => ?_⟩
  rcases Nat.lt_or_ge i l.length with lt | ge
  · rw [List.getElem?_append_left lt] at hu
    rw [List.getElem?_append_left (by rw [← h.1]; exact lt)] at hy
    exact h.2 i u y hu hy
  · rw [List.getElem?_append_right ge] at hu
    rw [List.getElem?_append_right (by rw [← h.1]; exact ge)] at hy
    have i0 : i - l.length = 0 := by
      have := (List.getElem?_eq_some_iff.mp hu).1
      simp at this
      omega
    rw [i0] at hu
    rw [← h.1, i0] at hy
    cases hu
    cases hy
    exact r
theorem Each.imp (h : Each R H l xs) (f : ∀ v x, R H v x → R H' v x) : Each R H' l xs := ⟨h.1, fun i v x e1 e2 => f v x (h.2 i v x e1 e2)⟩
theorem Each.at_ (h : Each R H l xs) {i : Nat} {v : V} (e : l[i]? = some v) : ∃ x, xs[i]? = some x ∧ R H v x := by
  have lt : i < xs.length := by
    rw [← h.1]
    exact (List.getElem?_eq_some_iff.mp e).1
  exact ⟨xs[i], List.getElem?_eq_getElem lt, h.2 i v _ e (List.getElem?_eq_getElem lt)⟩
theorem Each.of (h : Each R H l xs) {i : Nat} {x : α} (e : xs[i]? = some x) : ∃ v, l[i]? = some v ∧ R H v x := by
  have lt : i < l.length := by
    rw [h.1]
    exact (List.getElem?_eq_some_iff.mp e).1
  exact ⟨l[i], List.getElem?_eq_getElem lt, h.2 i _ x (List.getElem?_eq_getElem lt) e⟩
end
end Bp
set_option Elab.async false
set_option linter.all false
set_option maxRecDepth 100000
set_option maxHeartbeats 2000000
/-! Comprehensions whose items draw. -/
namespace Bp
open PySem PySem.Spec PyProof.Rows L2
variable {K : PySem.W.Frag}
/-- a comprehension whose items draw -/
theorem lc_feed {α : Type} {J : It} {n : Nat} {G : Hp → Prop} {Y : Nat → Hp → V → Hp → Prop} {gt : TG} {te : TE} {vs : List Nat} {σ : L2.St} {H1 : Hp} {D : Addr} {Qd : Hp → Prop}
    (w : Walk J n G Y) (g : Fed) (n0 c : Nat) (enc : α → V) (R : List α → Prop) (r0 : R []) (few : n ≤ 1000) (fe : FeedAt K H1 g n0) (nD : H1 D = none) (hG : ∀ H, Kept g.f H1 H → FeedAt K H g (n0 + c * n) → G H)
    (step : ∀ i x H H' (l : List α) (Qy : V → Hp → Prop), i < n → l.length = i → R l → Kept g.f H1 H → FeedAt K H g (n0 + c * i) → Y i H x H' → (∀ a H3, R (l ++ [a]) → Kept g.f H H3 → FeedAt K H3 g (n0 + c * (i + 1)) → Qy (enc a) H3) →
      gt x (wipe σ vs) H' fun σ2 H2 => wipe σ2 vs = wipe σ vs ∧ te σ2 H2 Qy)
    (done : ∀ H l, l.length = n → R l → Kept g.f H1 H → FeedAt K H g (n0 + c * n) → H D = some (.lst (l.map enc)) → Qd H)
    (mono : ∀ (v : V) (σ0 : L2.St) (H0 : Hp) (A B : L2.St → Hp → Prop), (∀ s h, A s h → B s h) → gt v σ0 H0 A → gt v σ0 H0 B) :
    ∃ W : Nat → Nat → Hp → Prop, (∃ m, W 0 m (upd H1 D (.lst []))) ∧ ∀ i m H, W i m H →
      (J.stop i H ∧ Qd H) ∨ (J.go i H ∧ ∃ Nx : Hp → Prop, (∀ H', Nx H' → ∃ m', m' < m ∧ W (i + 1) m' H') ∧ ∀ x H', J.yld i H x H' → gt x (wipe σ vs) H' fun σ2 H2 => wipe σ2 vs = wipe σ vs ∧ tYes σ2 H2 fun b H3 =>
        if b = true then te σ2 H3 fun y H4 => ∃ acc, H4 D = some (.lst acc) ∧ acc.length < sizeLine ∧ Nx (upd H4 D (.lst (acc ++ [y]))) else Nx H3) := by
  have nf := fe.ne nD
  refine lc_it w (fun i H => ∃ l : List α, l.length = i ∧ R l ∧ Kept g.f H1 H ∧ FeedAt K H g (n0 + c * i) ∧ H D = some (.lst (l.map enc))) ⟨[], rfl, r0, Kept.of (same_new nD), fe.same (same_new nD), upd_same⟩ ?_ ?_ ?_
  · rintro i H hi ⟨l, _, _, kp, f, _⟩
    exact hG H kp (f.le (Nat.add_le_add_left (Nat.mul_le_mul_left c hi) n0))
  · rintro i x H H' hi ⟨l, hl, hr, kp, f, hD⟩ y
    refine mono _ _ _ _ _ (fun s h z => ⟨z.1, yes_kept z.2⟩) (step i x H H' l _ hi hl hr kp f y fun a H3 r3 k3 f3 => ?_)
    refine ⟨l.map enc, k3 _ _ nf hD, ?_, l ++ [a], by rw [List.length_append, hl]; rfl, r3, ?_, fe.put nD f3, ?_⟩
    · rw [List.length_map]
      exact small1000 (by omega)
    · exact fun b o nb e => by
        rw [upd_ne (ne_of_none e nD)]
        exact k3 _ _ nb (kp b o nb e)
    · rw [upd_same, List.map_append]
      rfl
  · rintro H ⟨l, hl, hr, kp, f, hD⟩
    exact done H l hl hr kp f hD
end Bp
set_option Elab.async false
set_option linter.all false
set_option maxRecDepth 100000
/-! len(set(xs)) of a list of unlike texts. -/
namespace Bp
open PySem PySem.Spec PyProof.Rows L2
section
variable {prog : Program} {w : World} {A : Around} {R : Result → Shared → Prop} {it D : Addr} {fp wr : List Addr} {G : Array GenState → Array GenState → Prop} {n : Nat} {P : Nat → Value → Prop} {St : Nat → Shared → Prop}
/-- the set D holds just the first i of ys, all unlike -/
abbrev Holds (prog : Program) (w : World) (D : Addr) (ys : List Str) (i : Nat) (z : Shared) : Prop := z.heap.SetOf (strKind prog w) D (fun y => (ys.take i).any fun x => x == y) i
theorem Holds.moved {ys : List Str} {i : Nat} {z z' : Shared} (h : Holds prog w D ys i z) (k : ∀ o, z.heap.get? D = some o → z'.heap.get? D = some o) : Holds prog w D ys i z' := by
  obtain ⟨o, a, b, c, there, r⟩ := h
  exact ⟨o, a, b, c, k o there, r⟩
theorem fresh_text {ys : List Str} {i : Nat} {y : Str} (nd : ys.Nodup) (e : ys[i]? = some y) : ((ys.take i).any fun x => x == y) = false := by
  refine List.any_eq_false.mpr fun x hx => ?_
  obtain ⟨j, hj⟩ := List.mem_iff_getElem?.mp hx
  rw [List.getElem?_take] at hj
  by_cases lt : j < i
  · rw [if_pos lt] at hj
    intro z
    have xy : x = y := eq_of_beq z
    obtain ⟨a1, a2⟩ := List.getElem?_eq_some_iff.mp hj
    obtain ⟨b1, b2⟩ := List.getElem?_eq_some_iff.mp e
    have := List.pairwise_iff_getElem.mp nd j i a1 b1 lt
    exact this (by rw [a2, b2, xy])
  · rw [if_neg lt] at hj
    cases hj
/-- one text more -/
theorem next_text {ys : List Str} {i : Nat} {y : Str} {z : Shared} {E : Value → Shared → Prop} {t : Tok} {Q : Shared → Prop} (nd : ys.Nodup) (e : ys[i]? = some y) (few : i ≤ 1000) (h : Holds prog w D ys i z)
    (q : ∀ h' tk, z.toks ≤ tk → Heap.SameBut D z.heap h' → Holds prog w D ys (i + 1) { z with heap := h', toks := tk } → Q { z with heap := h', toks := tk }) : wpAny (model prog w) A (setAdd D (.str y t)) (fun _ z' => Q z') E z := by
  have is_y : (strKind prog w).is y (.str y t) = true := strKind_is _ _ _ _
  have not_yet := fresh_text nd e
  refine wpAny_holding (wpAny_bind ((strKind prog w).pyHash is_y ?_))
  have h1 : Holds prog w D ys i { z with toks := z.toks + 1 } := h.moved fun _ x => x
  refine wpAny_setAddHashed_of (Q := fun _ z' => Q z') is_y rfl h1 (by show i + 1 < 4096; omega) fun h' same put => q h' _ (Nat.le_succ _) same ?_
  rw [not_yet, if_neg Bool.false_ne_true] at put
  refine SetOf_congr put (fun x => ?_) rfl
  show (((ys.take i).any fun u => u == x) || decide (x = y)) = ((ys.take (i + 1)).any fun u => u == x)
  rw [List.take_add_one, e, List.any_append]
  show _ = (((ys.take i).any fun u => u == x) || ([y].any fun u => u == x))
  have one : ([y].any fun u => u == x) = decide (x = y) := by
    rw [List.any_cons, List.any_nil, Bool.or_false]
    by_cases c : x = y
    · rw [c, beq_self_eq_true, decide_eq_true rfl]
    · rw [decide_eq_false c]
      exact beq_eq_false_iff_ne.mpr fun d => c d.symm
  rw [one]
/-- the rest of the texts, taken in one by one -/
theorem rest_texts (W : WalksS prog w A.in1 it fp wr G n P St) (out : D ∉ fp) {ys : List Str} (nd : ys.Nodup) (len : ys.length = n) (few : n ≤ 1000) (val : ∀ i v, P i v → ∃ y t, ys[i]? = some y ∧ v = .str y t) :
    ∀ (m i : Nat) (z : Shared), i + m = n → St i z → Holds prog w D ys i z → (∀ z', Moved (D :: wr) G z z' → Holds prog w D ys n z' → R (.ok (.ret .none)) z') → codeAny (model prog w) A (.builtin "set.update.loop" ⟨[.ref D, .ref it], []⟩) R z := by
  have notW : D ∉ wr := fun h => out (W.sub _ h)
  have wider : ∀ b ∈ wr, b ∈ D :: wr := fun b hb => List.mem_cons_of_mem _ hb
  intro m
  induction m with
  | zero =>
    rintro i z hi at_i has q
    obtain rfl : i = n := by omega
    refine codeAny_builtin PyProof.Rows.F.entry_set_update_loop ?_
    rw [Around.under_plainId PyProof.Rows.F.plain_set_update_loop _]
    refine wpAny_bind (W.done z _ _ at_i fun z' mv => ?_)
    exact wpAny_pure (q z' (mv.mono wider) (has.moved fun o e => mv.heap D o notW e))
  | succ m ih =>
    rintro i z hi at_i has q
    refine codeAny_builtin PyProof.Rows.F.entry_set_update_loop ?_
    rw [Around.under_plainId PyProof.Rows.F.plain_set_update_loop _]
    refine wpAny_bind (W.item i z _ _ (by omega) at_i fun v z1 pv at_i1 mv => ?_)
    obtain ⟨y, t, hy, rfl⟩ := val i v pv
    have has1 := has.moved fun o e => mv.heap D o notW e
    refine wpAny_bind (wpAny_holding (next_text nd hy (by omega) has1 fun h' tk more same has2 => ?_))
    have apart : ∀ b o, b ≠ D → z1.heap.get? b = some o → h'.get? b = some o := fun b o ne x => (same.2 b ne).trans x
    refine wpAny_pure ⟨plainId_quiet PyProof.Rows.F.plain_set_update_loop _, ih (i + 1) _ (by omega) ?_ has2 fun z2 mv2 has3 => ?_⟩
    · exact W.frame _ z1 _ _ at_i1 more fun b hb o x => apart b o (fun c => out (c ▸ hb)) x
    · refine q z2 ?_ has3
      refine Moved.trans W.gtrans ((mv.mono wider).then_heap more fun b o hb x => ?_) mv2
      exact apart b o (fun c => hb (c ▸ List.mem_cons_self)) x
end
section
variable {prog : Program} {w : World} {A : Around} {E : Value → Shared → Prop} {s : Shared}
def bare (led : Bool) : Obj := { cls := .type "set", dict := none, data := .set #[] 0 (.fresh 0 0 led) }
/-- what is so behind: the set is new, holds all of ys, the rest stands -/
def Done (prog : Program) (w : World) (s : Shared) (ys : List Str) (z : Shared) : Prop :=
  ∃ h' tk, z = { s with heap := h', toks := tk } ∧ Holds prog w s.heap.objs.size ys ys.length z ∧ ∀ b o, s.heap.get? b = some o → h'.get? b = some o
theorem text_at : ∀ {us : List Value} {ys : List Str}, StrsAre us ys → ∀ {i : Nat} {v : Value}, us[i]? = some v → ∃ y t, ys[i]? = some y ∧ v = .str y t
  | _, _, .nil, i, v, h => by simp at h
  | _, _, .cons y t r, 0, v, h => ⟨y, t, rfl, (Option.some.inj h).symm⟩
  | _, _, .cons _ _ r, i + 1, v, h => text_at r h
theorem fill_texts {l : Addr} {vs : Array Value} {ys : List Str} {led : Bool} {B : Unit → Shared → Prop} (calm : A.handled = none) (hl : s.heap.IsList l vs) (items : StrsAre vs.toList ys) (nd : ys.Nodup) (few : ys.length ≤ 1000)
    (q : ∀ z, Done prog w s ys z → B () z) :
    wpAny (model prog w) A (pyIter (.ref l)) (fun v z => wpAny (model prog w) A (do let _ ← runValue (Code.builtin "set.update.loop" { pos := [.ref s.heap.objs.size, v] }); pure ()) B E z) E { s with heap := s.heap.push (bare led) } := by
  have at0 : (s.heap.push (bare led)).get? s.heap.objs.size = some (bare led) := Heap.get?_push_size _ rfl
  have lst : (s.heap.push (bare led)).IsList l vs := hl.push _
  have lt : l < s.heap.objs.size := by
    obtain ⟨o, e, _⟩ := hl
    exact Heap.lt_size e
  have size : (s.heap.push (bare led)).objs.size = s.heap.objs.size + 1 := Heap.size_push ..
  have it_l : l ≠ (s.heap.push (bare led)).objs.size := by
    rw [size]
    exact Nat.ne_of_lt (Nat.lt_succ_of_lt lt)
  have len : ys.length = vs.size := by rw [← StrsAre.len_eq items, Array.length_toList]
  refine wpAny_pyIter_list lst (wpAny_bind (wpAny_runValue ?_))
  refine rest_texts ((Walks.list (by rw [Around.in1_handled]; exact calm) _ l it_l vs).toS) (D := s.heap.objs.size) ?_ nd len (by omega) (fun i v hv => ?_) vs.size 0 _ (by omega) ⟨⟨_, Heap.get?_push_size _ rfl, rfl, rfl⟩, lst.push _⟩ ?_ fun z mv has => ?_
  · rw [size]
    intro h
    rcases List.mem_cons.mp h with h | h
    · exact absurd h (Nat.ne_of_lt (Nat.lt_succ_self _))
    · exact Nat.ne_of_gt lt (List.mem_singleton.mp h)
  · exact text_at items (by rw [Array.getElem?_toList]; exact hv)
  · have there : ((s.heap.push (bare led)).push { cls := .type "list_iterator", data := .fields #[.ref l, .int 0 0] }).get? s.heap.objs.size = some (bare led) := Heap.get?_push_of_some _ at0
    exact SetOf_congr ((setObjOf_fresh (knd := strKind prog w) led).setOf there (by show 0 < 4096; decide)) (fun _ => rfl) rfl
  · obtain ⟨h', g', d', tk, os'⟩ := z
    have e1 : g' = s.gens := mv.gens
    have e2 : d' = s.drawn := mv.drawn
    have e3 : os' = s.os := mv.os
    subst e1 e2 e3
    refine wpAny_pure (q _ ⟨h', tk, rfl, by rw [len]; exact has, fun b o e => ?_⟩)
    have lb := Heap.lt_size e
    refine mv.heap b o (fun h => ?_) (Heap.get?_push_of_some _ (Heap.get?_push_of_some _ e))
    rw [size] at h
    rcases List.mem_cons.mp h with h | h
    · exact absurd h (Nat.ne_of_lt lb)
    · exact Nat.ne_of_lt (Nat.lt_succ_of_lt lb) (List.mem_singleton.mp h)
set_option maxHeartbeats 4000000 in
theorem set_of_texts {l : Addr} {vs : Array Value} {ys : List Str} {Q : Value → Shared → Prop} (calm : A.handled = none) (hl : s.heap.IsList l vs) (items : StrsAre vs.toList ys) (nd : ys.Nodup) (few : ys.length ≤ 1000)
    (q : ∀ z, Done prog w s ys z → Q (.ref s.heap.objs.size) z) : wpAny (model prog w) A (call (.type "set") [.ref l]) Q E s := by
  obtain ⟨c, tl, mro⟩ := PySem.F.called_set.mro
  have made := PySem.F.called_set.made
  have below := PySem.F.called_set.sub
  have n1 := PySem.F.called_set.notType
  have n2 := PySem.F.called_set.canCreate
  have tc := PySem.F.typeCall_set_1 (.ref l)
  refine wpAny_call (codeAny_of_tree (wpAny_pure ⟨Code.quiet_builtin _ (by decide +kernel), codeAny_builtin PySem.F.entry_type_call ?_⟩))
  rw [Around.under_plain (weight_type_call_type "set" [.ref l] []) rfl]
  repeat (any_goals (first | assumption | wp_step))
  refine codeAny_mono (code_set_new_1 (.ref l) (E := E) (Q₁ := fun v z => ∃ led, v = .ref s.heap.objs.size ∧ z = { s with heap := s.heap.push (bare led) }) fun led => ⟨led, rfl, rfl⟩) ?_
  rintro (e | fl) z0 h0
  · exact h0
  match fl, h0 with
  | .next, h0 => exact h0.elim
  | .brk, h0 => exact h0.elim
  | .cont, h0 => exact h0.elim
  | .ret v, h0 =>
    obtain ⟨led, rfl, rfl⟩ := h0
    have at0 : (s.heap.push (bare led)).get? s.heap.objs.size = some (bare led) := Heap.get?_push_size _ rfl
    have ty : Shared.TypeIs { s with heap := s.heap.push (bare led) } (.ref s.heap.objs.size) "set" := ⟨_, at0, rfl⟩
    have look := PySem.F.called_set.init.lookup
    have bound := PySem.F.called_set.init.bind (.ref s.heap.objs.size)
    repeat (any_goals (first | assumption | wp_step))
    refine codeAny_mono (codeAny_call_builtin (R := wants (fun v z => v = .none ∧ Done prog w s ys z) E) PySem.F.called_set.init.plain PySem.F.entry_set_init (check_set_init_1 ty ?_)) ?_
    · obtain ⟨ol, hol, hcl, nl, hdl⟩ := hl
      obtain ⟨oc, od, dt, os⟩ := ol
      simp only at hcl hdl
      subst hcl hdl
      have there : (s.heap.push (bare led)).get? l = some { cls := .type "list", dict := od, data := .seq vs nl, slots := os } := Heap.get?_push_of_some _ hol
      have lst : (s.heap.push (bare led)).IsList l vs := ⟨_, there, rfl, nl, rfl⟩
      have b1 := PySem.F.sub_list_set
      have b2 := PySem.F.sub_list_frozenset
      have b3 : (Value.type "list" == Value.type "dict") = false := by decide
      unfold Builtin.«set.__init__» noKeywords Builtin.Frozenset.updateFrom
      generalize iter : pyIter = PI
      wp_walk
      subst iter
      refine wpAny_mono (fill_texts (B := fun _ z => Done prog w s ys z) (by rw [Around.in1_handled, Around.in1_handled]; exact calm) ⟨_, hol, rfl, nl, rfl⟩ items nd few fun z d => d) (fun v z h => ?_) fun _ _ h => h
      exact wpAny_mono h (fun _ _ d => wpAny_pure ⟨rfl, d⟩) fun _ _ h => h
    · rintro (e | fl) z h
      · exact h
      match fl, h with
      | .next, h => exact h.elim
      | .brk, h => exact h.elim
      | .cont, h => exact h.elim
      | .ret v, h =>
        obtain ⟨rfl, d⟩ := h
        repeat (any_goals (first | assumption | wp_step))
        exact q _ d
end
/-- len(set(xs)), xs a list of unlike texts -/
def tLenTexts (K : PySem.W.Frag) (ta : TE) : TE := fun σ H Q => ta σ H fun x H1 => ∃ (l : Addr) (ys : List Str), x = .ref l ∧ SqL K H1 l (ys.map V.str) ∧ ys.Nodup ∧ ys.length ≤ 1000 ∧ Q (.int ys.length) H1
theorem pe_lenTexts {X : Cx} {a : Expr} {ta : TE} {p p2 q pos : Pos} (calm : X.calm = true) (g1 : Gl X "len") (m1 : X.mg "len" = none) (g2 : Gl X "set") (m2 : X.mg "set" = none) (ha : PE X a ta)
    (one : starEach [a] X.env = (false, eval a X.env) :: starEach [] X.env := by rfl) : PE X (.Call (.Name "len" p) [.Call (.Name "set" p2) [a] [] q] [] pos) (tLenTexts X.K ta) := by
  constructor
  intro pins s σ H Q I h
  refine Call_ (ld_blt I g1 m1 boot_len (PyProof.Rows.callWith_builtin1 (PyProof.Rows.args_cons ?_ rfl) rfl rfl))
  refine Call_ (ld_blt I g2 m2 boot_set (PyProof.Rows.callWith_type1 (PyProof.Rows.args_cons ?_ one) one rfl))
  refine thn (ha.run pins s σ H _ I h) ?_
  rintro v s1 ⟨x, H1, I1, r1, l, ys, rfl, hq, nd, few, q1⟩
  cases r1
  obtain ⟨its, rv, pl, _⟩ := I1.list hq
  refine PyProof.Rows.args_nil (set_of_texts (I1.ok.hd calm) pl.isList (by simpa using strsAre_of rv) nd few ?_)
  rintro z ⟨h', tk, rfl, has, kept⟩
  refine PyProof.Rows.args_nil ?_
  obtain ⟨o, es, ep, t, there, ex, hd, _, _, _, hf, hn⟩ := has
  have I2 : Inv X pins σ H1 { s1 with heap := h', toks := tk } := I1.kept fun b o e => kept b o e
  exact call_len_set there ex hd hf (by rw [hn]; omega) ⟨.int ys.length, H1, I2.tok _, ⟨_, by rw [hn]⟩, q1⟩
end Bp
set_option Elab.async false
set_option linter.all false
set_option maxRecDepth 100000
/-! Dict comprehensions whose keys are tuples. -/
namespace Bp
open PySem PySem.Spec PyProof.Rows L2
/-- what is asked of a turn: the key a tuple of numbers and texts -/
def tDcT (wi : TI) (g : TG) (tt : TT) (tk tv : TE) (vs : List Nat) : TE := fun σ H Q => wi σ H fun J H1 => ∀ D, H1 D = none → ∃ W : Nat → Nat → Hp → Prop, (∃ m, W 0 m (upd H1 D (.dT []))) ∧ ∀ i m H, W i m H →
  (J.stop i H ∧ Q (.ref D) H) ∨ (J.go i H ∧ ∃ Nx : Hp → Prop, (∀ H', Nx H' → ∃ m', m' < m ∧ W (i + 1) m' H') ∧ ∀ x H', J.yld i H x H' → g x (wipe σ vs) H' fun σ2 H2 => wipe σ2 vs = wipe σ vs ∧ tt σ2 H2 fun b H3 =>
    if b = true then tk σ2 H3 fun y H4 => tv σ2 H4 fun z H5 => ∃ (kvs : List (List Key × V)) (k : List Key) (t : Addr), y = .ref t ∧ H5 t = some (.tup (k.map kV)) ∧ H5 D = some (.dT kvs) ∧ kvs.length < sizeLine ∧ Nx (upd H5 D (.dT (putK kvs k z))) else Nx H3)
/-- one entry more -/
theorem put_tuple {X : Cx} {pins : List (Addr × Obj)} {σ : L2.St} {H : Hp} {s : Shared} {E : Value → Shared → Prop} {D t : Addr} {kvs : List (List Key × V)} {k : List Key} {v : V} {r : Value} {Q : Unit → Shared → Prop} (hu : X.A.units + 1 < cLine) (I : Inv X pins σ H s) (hD : H D = some (.dT kvs)) (few : kvs.length < sizeLine)
    (ht : H t = some (.tup (k.map kV))) (rv : RelV v r) (h : ∀ s', Inv X pins σ (upd H D (.dT (putK kvs k v))) s' → Q () s') : wpAny (model X.prog X.w) X.A (dictSet D (.ref t) r) Q E s := by
  obtain ⟨z, hd, xs, rel, dd⟩ := dt_of I.hok hD
  have len : xs.length ≤ sizeLine := by rw [← Paired.length rel]; exact z
  have more := length_putK kvs k v
  refine wpAny_dictSet_heap (hsz := len) (Nat.lt_of_succ_lt hu) (key_of I.hok ht) dd ?_
  intro h' d2 same
  refine h _ ?_
  obtain ⟨o, es, ep, there, r2, r3, r4, _, r5⟩ := d2
  refine d_write I (by rw [hD]; exact True.intro) same ⟨o, there⟩ ⟨by omega, hd, _, (rel.put k ht rv).keeps fun c ys ec => ?_, o, es, ep, there, r2, r3, r4, r5⟩
  rw [upd_ne (ne_of ec hD fun z => nomatch z)]
  exact ec
theorem pe_dcT {X : Cx} {kx vx tg iter : Expr} {ifs : List Expr} {scope : Scope} {own : List (Str × Nat)} {pos : Pos} {wi : TI} {g : TG} {tt : TT} {tk tv : TE} (hu : X.A.units + 1 < cLine) (calm : X.calm = true) (nd : X.N.Nodup) (hi : PI X tg iter wi) (ok : BlkOk X.N X.env.scope scope own)
    (hg : ∀ (s : Shared) (H : Hp) (C : Addr) (cl : List (Str × Addr)) (fp : List Addr), PG (X.blk s H scope (compEnvC scope cl C X.env) fp) tg g) (ht : ∀ (s : Shared) (H : Hp) (C : Addr) (cl : List (Str × Addr)) (fp : List Addr), PTs (X.blk s H scope (compEnvC scope cl C X.env) fp) ifs tt)
    (hk : ∀ (s : Shared) (H : Hp) (C : Addr) (cl : List (Str × Addr)) (fp : List Addr), PE (X.blk s H scope (compEnvC scope cl C X.env) fp) kx tk)
    (hv : ∀ (s : Shared) (H : Hp) (C : Addr) (cl : List (Str × Addr)) (fp : List Addr), PE (X.blk s H scope (compEnvC scope cl C X.env) fp) vx tv) (fold : ∀ x, foldedSetIterable iter X.env x = pure x := by intro _; rfl) :
    PE X (.DictComp kx vx [⟨tg, iter, ifs, 0⟩] scope pos) (tDcT wi g tt tk tv (own.map (·.2))) := by
  constructor
  intro pins s σ H Q I h
  rw [arm_eval_DictComp]
  have cells : ∀ y ∈ scope.names, y.2 = .free → ∃ c, X.env.cells.lookup y.1 = some c := fun y hy e => (ok.free y hy e).elim (fun k => I.ok.has _ (.inl k)) fun k => I.ok.has _ (.inr k)
  refine wpAny_comprehension_free rfl fold (closure_ok cells) ok.kind (fun y hy e => by rw [ok.uniq y hy, e]) (thn (hi.run pins s σ H _ I h) fun _ _ hx => thn hx ?_)
  rintro itv s2 ⟨it, fp, tn, J, H2, rfl, I2, T, st2, f2, q⟩
  refine wpAny_newObj_type (newEnv_comp ?_)
  -- the new dict
  have D_new : H2 s2.heap.objs.size = none := I2.hok.fresh (Nat.le_refl _)
  obtain ⟨W, ⟨m0, w0⟩, turn⟩ := q _ D_new
  have small : ∀ b ∈ fp, b < s2.heap.objs.size := fun b hb => Heap.lt_size (T.obj _ _ st2 b hb).choose_spec.1
  have I3 : Inv X pins σ (upd H2 s2.heap.objs.size (.dT [])) { s2 with heap := s2.heap.push { cls := .type "dict", data := .dict #[] } } :=
    I2.laid (t' := s2.toks) (fun b o e => Heap.get?_push_of_some _ e) (Nat.le_refl _) (dt_empty s2.heap I2.big)
  have f3 : ∀ b ∈ fp, FpOk X pins (upd H2 s2.heap.objs.size (.dT [])) b ∧ b < (s2.heap.push { cls := .type "dict", data := .dict #[] }).objs.size := fun b hb => by
    have lt := small b hb
    refine ⟨⟨?_, (f2 b hb).2⟩, by rw [Heap.size_push]; exact Nat.lt_succ_of_lt lt⟩
    rw [upd_ne (Nat.ne_of_lt lt)]
    exact (f2 b hb).1
  have st3 : tn 0 (s2.heap.push { cls := .type "dict", data := .dict #[] }) := T.keep _ _ _ st2 fun b _ o e => Heap.get?_push_of_some _ e
  have I4 := block_start I3 ok nd f3
  generalize at3 : upd H2 s2.heap.objs.size (.dT []) = H3 at I3 f3 I4 w0
  have out3 : ∀ b ∈ fp, H3 b = none := fun b hb => (f3 b hb).1.1
  generalize whole : ({ s2 with heap := s2.heap.push { cls := .type "dict", data := .dict #[] } } : Shared) = s3 at I3 I4
  have heap3 : s3.heap = s2.heap.push { cls := .type "dict", data := .dict #[] } := by rw [← whole]
  rw [← heap3] at st3 f3
  generalize frame : cellsFrom (s3.heap.objs.size + 1) scope.names (cloFrom X.env.cells scope.names []) = cl at I4
  have st4 : tn 0 (pushCells (s3.heap.push { cls := .type "dict", data := .dict #[] }) scope.names) := T.keep _ _ _ st3 fun b _ o e => pushCells_keeps _ _ _ _ (Heap.get?_push_of_some _ e)
  have rg := hg s3 H3 s3.heap.objs.size cl fp
  have rt := ht s3 H3 s3.heap.objs.size cl fp
  have rk := hk s3 H3 s3.heap.objs.size cl fp
  have rv := hv s3 H3 s3.heap.objs.size cl fp
  have fine : ∀ {σ' : L2.St} {H' : Hp} {z : Shared}, Inv (X.blk s3 H3 scope (compEnvC scope cl s3.heap.objs.size X.env) fp) [] σ' H' z → (∀ b ∈ fp, H' b = none) → ∀ b ∈ fp, FpOk (X.blk s3 H3 scope (compEnvC scope cl s3.heap.objs.size X.env) fp) [] H' b :=
    fun I' n b hb => ⟨n b hb, (I'.ok.exf b hb).1, I'.ok.exfs b hb, .inl hb, fun x c e => (I'.ok.exf b hb).2 x c e, fun p hp => absurd (show p ∈ ([] : List (Addr × Obj)) ++ [] from hp) (by simp)⟩
  suffices loop : codeAny (model X.prog X.w) X.A (.compLoop (.DictComp kx vx [⟨tg, iter, ifs, 0⟩] scope pos) 0 (.ref it) (.ref s2.heap.objs.size) (compEnvC scope cl s3.heap.objs.size X.env))
      (compPost (model X.prog X.w) X.A X.xe none (EP X pins σ Q) (.ref s2.heap.objs.size) s3.heap.objs.size) { s3 with heap := pushCells (s3.heap.push { cls := .type "dict", data := .dict #[] }) scope.names } by
    exact codeAny_compStart_dict loop (T.self X.A 0 _ _ _ st4 loop)
  refine compLoop_anyD (fun n z => ∃ i H', Inv (X.blk s3 H3 scope (compEnvC scope cl s3.heap.objs.size X.env) fp) [] (wipe σ (own.map (·.2))) H' z ∧ tn i z.heap ∧ (∀ b ∈ fp, H' b = none) ∧ W i n H') ?_ m0 ⟨0, H3, I4, st4, out3, w0⟩
  rintro n s5 ⟨i, H5, I5, st5, out5, w5⟩
  rcases turn i n H5 w5 with ⟨stop, last⟩ | ⟨go, Nx, next, step⟩
  · refine thnF (T.done (X.blk s3 H3 scope (compEnvC scope cl s3.heap.objs.size X.env) fp) rfl rfl rfl calm i [] s5 _ H5 (fun _ _ => False) I5 (fine I5 out5) st5 stop) ?_
    rintro r s6 ⟨rfl, I6⟩
    -- out of the block
    have I7 : Inv X pins σ H5 s6 := I3.call' (ch := fp) I6.os I6.base I6.hok I6.bare fun b hb => by
      obtain ⟨_, a1, a2, a3, a4, a5⟩ := (f3 b hb).1
      exact ⟨a3, a1, a4, a5⟩
    have gone : H5 s3.heap.objs.size = none := I6.free
    obtain ⟨m, named, _⟩ := I6.loc
    refine ⟨m, named, fun h' same => ?_⟩
    obtain ⟨g0, g1, g2, g3, g4, g5⟩ := I3.fpOk (H' := H5) (Nat.le_refl s3.heap.objs.size) gone
    exact ⟨.ref _, H5, I7.turned (t' := s6.toks) (fun b o ne e => (same.2 b ne).trans e) g0 g1 g3 g4 g5, rfl, last⟩
  · refine thnF (T.item (X.blk s3 H3 scope (compEnvC scope cl s3.heap.objs.size X.env) fp) rfl rfl rfl calm i [] s5 _ H5 (fun _ _ => False) I5 (fine I5 out5) st5 go) ?_
    rintro r s6 ⟨u, rfl, h6⟩
    refine thnF h6 ?_
    rintro _ s7 ⟨x, H7, I7, r7, y7, st7, out7⟩
    have held := I7.pinned (fine I7 out7) (T.obj _ _ st7)
    refine thnF (rg.run _ s7 _ H7 x u _ held r7 (step x H7 y7)) ?_
    rintro _ s8 ⟨σ8, H8, I8, w8, q8⟩
    refine thnF (rt.run _ s8 σ8 H8 _ I8 q8) ?_
    rintro b s9 ⟨H9, I9, q9⟩
    -- how a turn ends
    have ends : ∀ (z : Shared) (H' : Hp), Inv (X.blk s3 H3 scope (compEnvC scope cl s3.heap.objs.size X.env) fp) ([] ++ pinsAt fp s7.heap) σ8 H' z → Nx H' →
        ∃ m, m < n ∧ ∃ i H', Inv (X.blk s3 H3 scope (compEnvC scope cl s3.heap.objs.size X.env) fp) [] (wipe σ (own.map (·.2))) H' z ∧ tn i z.heap ∧ (∀ b ∈ fp, H' b = none) ∧ W i m H' := by
      intro z H' I' nx
      obtain ⟨m', lt, w'⟩ := next H' nx
      have still : ∀ b ∈ fp, ∀ o, s7.heap.get? b = some o → z.heap.get? b = some o ∧ H' b = none := fun b hb o e => by
        obtain ⟨p1, p2, _⟩ := I'.pin (b, o) (List.mem_append_right _ (List.mem_append_right _ (mem_pinsAt hb e)))
        exact ⟨p1, p2⟩
      have len : (wipe σ (own.map (·.2))).length = σ8.length := by rw [← w8, wipe_length]
      refine ⟨m', lt, i + 1, H', (I'.unpinned (pins := [])).weak len (fun j v e => ?_), T.keep _ _ _ st7 fun b hb o e => (still b hb o e).1, fun b hb => ?_, w'⟩
      · rw [← w8] at e
        exact (wipe_some e).1
      · obtain ⟨o, e, _⟩ := T.obj _ _ st7 b hb
        exact (still b hb o e).2
    cases b with
    | false => exact ends _ _ I9 q9
    | true =>
      refine thnF (rk.run _ s9 σ8 H9 _ I9 q9) ?_
      rintro kv s10 ⟨y, H10, I10, r10, q10⟩
      refine thnF (rv.run _ s10 σ8 H10 _ I10 q10) ?_
      rintro vv s11 ⟨z, H11, I11, r11, kvs, k, t, rfl, ht, hD, few, nx⟩
      cases r10
      exact put_tuple (X := X.blk s3 H3 scope (compEnvC scope cl s3.heap.objs.size X.env) fp) hu I11 hD few ht r11 fun s12 I12 => ends _ _ I12 nx
end Bp
set_option Elab.async false
set_option linter.all false
set_option maxRecDepth 100000
set_option maxHeartbeats 1000000
/-! Own exception classes straight over any built-in one, whose __init__ is walked as a def. -/
namespace Bp
open PySem PySem.Spec PyProof.Rows L2
section
open PySem.Builtin PySem.Builtin.ObjectAttr
variable {prog : Program} {w : World} {A : Around} {R : Result → Shared → Prop} {hp : Heap} {g : Array GenState} {d : Drawn} {t : Nat} {os : OsState} {B : String} {bm : List Value}
/-- self.name = v, where the exception has no dict as yet -/
theorem first_store {K : PySem.W.Frag} {name : Str} {tk : Tok} {v : Value} {x C : Addr} {fv : Array Value} {cd : ClassData} (SF : StoreFacts B bm "object.__setattr__" "object")
    (X : K.In hp) (hx : hp.get? x = some { cls := .ref C, data := .fields fv }) (hcd : PySem.W.clsIn K C = some cd) (mro : cd.mro = .ref C :: bm) (hasD : cd.hasDict = true) (no : PySem.W.findIn K (.ref C) name = some none)
    (hq : ∀ h' tk' dx, (∀ b o, b ≠ x → hp.get? b = some o → h'.get? b = some o) → hp.objs.size ≤ dx → dx ≠ x → h'.get? x = some { cls := .ref C, dict := some dx, data := .fields fv } →
      h'.Ns1 dx (fun y => if y = name then some v else none) → R (.ok (.ret .none)) ⟨h', g, d, tk', os⟩) :
    codeAny (model prog w) A (.call (.builtin "object.__setattr__") ⟨[.ref x, .str name tk, v], []⟩) R ⟨hp, g, d, t, os⟩ := by
  have I : PySem.W.InstAt hp x { cls := .ref C, data := .fields fv } C none := ⟨hx, rfl, rfl, trivial⟩
  have apart : x ≠ hp.objs.size := Nat.ne_of_lt (Heap.lt_size hx)
  have isObj : PySem.W.mroIn K C (.type "object") = some true := by
    unfold PySem.W.mroIn
    rw [hcd, Option.bind_some, mro, List.contains_cons, SF.hasOwner, Bool.or_true]
    rfl
  have sub : PySem.W.Looks (model prog w) hp (isInstance (.ref x) (.type "object")) true := I.type.andThen (PySem.W.looks_mroIn X isObj)
  have passes : refuseLoop (.ref x) "__setattr__" cd.mro = pure () := by
    rw [mro, refuseLoop_ref]
    exact SF.passes _
  have order : PySem.W.Looks (model prog w) hp (mroOf (.ref C)) cd.mro := (PySem.W.looks_clsIn X hcd).andThen .now
  have taker : PySem.W.Looks (model prog w) hp (storeTaker? none) none := .now
  have data : PySem.W.Looks (model prog w) hp (classData C) cd := PySem.W.looks_clsIn X hcd
  refine codeAny_call_builtin SF.slot.plain SF.entry ?_
  refine @PySem.W.check_slot (model prog w) _ _ ⟨hp, g, d, t, os⟩ "object.__setattr__" "object" "__setattr__"
    (.ref x) [.str name tk, v] [] _ SF.kind SF.split sub (SF.args (.ref x) (.str name tk) v) ?_
  rw [PySem.W.osa_eq, refuse_eq]
  refine wpAny_bind (wpAny_bind (I.type.at (wpAny_bind (order.at ?_))))
  rw [passes]
  refine wpAny_pure (wpAny_bind (I.type.at (wpAny_bind ((PySem.W.looks_findIn X no).at (wpAny_bind (taker.at ?_))))))
  show wpAny _ _ (storeInOwnDict (.ref x) (.ref C) (.str name tk) name v false) _ _ _
  obtain ⟨nm, bs, mr, ns, qn, hd, sn, sb, ab, col, del⟩ := cd
  cases (show hd = true from hasD)
  unfold storeInOwnDict ownDictForStores
  repeat
    first
    | with_reducible refine PySem.HandSPX.store_in_new ?_ ?_
    | with_reducible refine wpAny_loadPart_at hx ?_
    | with_reducible refine data.at ?_
    | wp_step
  · refine ⟨_, #[], _, (Heap.get?_update_ne _ _ _ _ apart.symm).trans (Heap.get?_push_at rfl rfl), rfl, fun e he => ?_, fun _ => rfl⟩
    simp at he
  · intro h' tk' ns' but
    have hx1 : (hp.push { cls := .type "dict", data := .dict #[] }).get? x = some { cls := .ref C, data := .fields fv } := Heap.get?_push_of_some _ hx
    refine hq h' tk' hp.objs.size (fun b o hb ho => ?_) (Nat.le_refl _) apart.symm ((but.2 x apart).trans (Heap.get?_update_self _ hx1 rfl)) ns'
    have h1 := Heap.get?_push_of_some { cls := .type "dict", data := .dict #[] } ho
    exact (but.2 b (Nat.ne_of_lt (Heap.lt_size ho))).trans ((Heap.get?_update_ne _ _ _ _ hb).trans h1)
end

/-- what the written part says of such a class: straight over the built-in one whose maker is newId and whose chain is bm -/
structure Oex (K : PySem.W.Frag) (C : Addr) (newId : String) (bm : List Value) : Prop where
  cls : ∃ nm q N bs sn sub ab col dd k0 k1 k2 k3 k5, K.lookup C = some (excClassObj nm q C N bs bm true sn sub ab col dd k0 k1 k2 k3 k5 newId)
  sa : PySem.W.findIn K (.ref C) "__setattr__" = some (some (.builtin "object.__setattr__"))
  exC : PySem.W.subIn K (.ref C) (.type "BaseException") = some true
  tyC : PySem.W.typeIn K (.ref C) = some (.type "type")
  kC : PySem.W.keepIn K (.ref C) = true
section
variable {X : Cx} {pins : List (Addr × Obj)} {σ : L2.St} {H : Hp} {s : Shared} {a C : Addr} {f : Str} {y : V} {u : Value} {Q : Unit → Shared → Prop} {E : Value → Shared → Prop} {A : Around} {B newId : String} {bm : List Value}
theorem keep_first (SF : StoreFacts B bm "object.__setattr__" "object") (T : Oex X.K C newId bm) (I : Inv X pins σ H s) (e : H a = some (exo a C none)) (no : PySem.W.findIn X.K (.ref C) f = some none) (ry : RelV y u)
    (h : ∀ dx s', H dx = none → dx ≠ a → Inv X pins σ (upd (upd H dx (exd dx [(f, y)])) a (exo a C (some dx))) s' → Q () s') : wpAny (model X.prog X.w) A (setAttr (.ref a) f u) Q E s := by
  obtain ⟨nm, q, N, bs, sn, sub, ab, col, dd, k0, k1, k2, k3, k5, hC⟩ := T.cls
  have hcl : PySem.W.clsIn X.K C = some ⟨nm, bs, .ref C :: bm, N, q, true, sn, sub, ab, col, false⟩ := by
    unfold PySem.W.clsIn
    rw [hC]
  obtain ⟨t1, at_⟩ := exo_at I.hok e
  obtain ⟨hp, g, d, t, os⟩ := s
  refine PySem.W.set_plain I.kIn (ox := ⟨.ref C, none, .fields #[.ref t1, .none, .none, .none, .bool false, .none], #[]⟩) (od := none) ⟨at_, rfl, rfl, trivial⟩ T.sa ?_
  refine first_store SF I.kIn at_ hcl rfl rfl no ?_
  intro h' tk' dx kept new apart there ns
  have free : H dx = none := I.hok.fresh new
  have old : ∀ {b : Addr} {o : Obj}, hp.get? b = some o → b ≠ dx := fun z => Nat.ne_of_lt (Nat.lt_of_lt_of_le (Heap.lt_size z) new)
  have notA : ∀ {b : Addr}, H b = none → b ≠ a := fun n z => by
    rw [z, e] at n
    cases n
  have same : ∀ {b : Addr} {o : HO}, H b = some o → b ≠ a → upd (upd H dx (exd dx [(f, y)])) a (exo a C (some dx)) b = some o := fun z n => by
    rw [upd_ne n, upd_ne (ne_of_none z free)]
    exact z
  have U : Un X.fs [] H (upd (upd H dx (exd dx [(f, y)])) a (exo a C (some dx))) hp h' := by
    refine ⟨fun b o z n _ _ => kept b o (notA n) z, fun b o z n _ _ => ⟨o.slots, kept b o (notA n) z⟩, fun b o z n _ => ?_, fun b o z _ => ?_, fun b xs z => same z (at_ne e z exo_tup), fun b o v z => same z (at_ne e z exo_frz), fun b ps z => ⟨#[], ?_⟩⟩
    · rw [upd_ne (notA n), upd_ne (old z)]
      exact n
    · by_cases c : b = a
      · rw [c]
        exact ⟨_, there⟩
      · exact ⟨o, kept b o c z⟩
    · rw [same z (at_ne e z exo_tbl)]
      simp
  refine h dx _ free apart (I.un (t' := tk') U ?_)
  intro b o z
  by_cases c : b = a
  · rw [c, upd_same] at z
    rw [c]
    cases z
    exact exo_ok there
  · rw [upd_ne c] at z
    by_cases c2 : b = dx
    · rw [c2, upd_same] at z
      rw [c2]
      cases z
      exact exd_ok ns (relO_put (fs := []) ry fun _ => trivial)
    · rw [upd_ne c2] at z
      refine (I.hok b o z).stay (fun b2 v hb2 z2 => kept b2 v ?_ z2) (fun b2 z2 => same z2 (at_ne e z2 exo_own)) (fun b2 xs z2 => same z2 (at_ne e z2 exo_tup))
      rcases hb2 with rfl | hb2
      · exact c
      · exact at_ne e hb2 exo_own
/-- self.f = e, the first store into such an exception -/
def tKeep (K : PySem.W.Frag) (newId : String) (bm : List Value) (f : Str) (to te : TE) : TS := fun D σ H => te σ H fun y H1 => to σ H1 fun x H2 => ∃ a C : Addr, x = .ref a ∧ Oex K C newId bm ∧ PySem.W.findIn K (.ref C) f = some none ∧
  H2 a = some (exo a C none) ∧ ∀ dx, H2 dx = none → dx ≠ a → D.nx σ (upd (upd H2 dx (exd dx [(f, y)])) a (exo a C (some dx)))
theorem ps_keep {o e : Expr} {to te : TE} {p' pos : Pos} (SF : StoreFacts B bm "object.__setattr__" "object") (ho : PE X o to) (he : PE X e te) (hs : swapsWith e (some (.Attribute o f p')) pos.line X.env = pure false := by rfl) :
    PS X (.Assign [.Attribute o f p'] e pos) (tKeep X.K newId bm f to te) := by
  constructor
  intro pins s σ H D I h
  refine plainObj_wpAny_Assign_Attribute (thn (he.run pins s σ H _ I h) ?_) hs
  rintro v s1 ⟨y, H1, I1, r1, q1⟩
  refine thn (ho.run pins s1 σ H1 _ I1 q1) ?_
  rintro w' s2 ⟨x, H2, I2, r2, a, C, rfl, T, no, ea, q⟩
  cases (show w' = Value.ref a from r2)
  exact keep_first SF T I2 ea no r1 fun dx s' n ne J => ⟨σ, _, J, q dx n ne⟩
/-- C(e, ..), C's own __init__ keeping sp -/
theorem pmk_keep {CX : CXT} {x : Str} {fI : Addr} {k : Nat} {fd : FuncData} {ps : List Str} {sp : Sp} {ds : List Value} {dvs : List V} {e : Expr} {es : List Expr} {ta : TA} {p pos : Pos} {initId : String} (F : ExcBaseFacts B newId initId bm)
    (T : Oex X.K C newId bm) (iC : PySem.W.findIn X.K (.ref C) "__init__" = some (some (.ref fI))) (tI : PySem.W.typeIn X.K (.ref fI) = some (.type "function")) (F1 : FnOk X.prog X.w X.K X.mg X.base CX k fI fd ps sp) (hr : Room (k + 1) X.A)
    (hb : Binds X.K fd ps ds) (hd : Vals dvs ds) (hx : Passes CX X (fun _ _ _ => False)) (hg : Gl X x) (hm : X.mg x = some (.ref C)) (ha : PA X (e :: es) ta) (hdb : (x == ("__debug__" : Str)) = false := by decide)
    (he : starEach (e :: es) X.env = (false, eval e X.env) :: starEach es X.env := by rfl) (hpl : (backTo pos (starEach es X.env)).any (·.1) = false := by rfl) : PMk X (.Call (.Name x p) (e :: es) [] pos) (tMkO C sp dvs ta) := by
  intro pins s σ H Q I h
  obtain ⟨nm, q, N, bs, sn, sub, ab, col, dd, k0, k1, k2, k3, k5, hC⟩ := T.cls
  apply wpAny_Call_Name_kw
  refine ld_glob I hg hm ?_ hdb
  refine PySem.W.callWith_K (h₀ := X.base) I.ok.mod.kin T.kC (thn (ha.run pos pins s σ H _ I h) ?_) he hpl
  rintro us s1 ⟨vs, H1, I1, r1, few, q1⟩
  refine ⟨I1.kIn, ?_⟩
  show wpAny _ _ (call (.ref C) us) _ _ _
  obtain ⟨hp, g, dr, tk, os⟩ := s1
  have le : hp.objs.size ≤ hp.objs.size + 1 := Nat.le_succ _
  have asked := q1 (hp.objs.size + 1) (I1.hok.fresh le)
  let hp2 : Heap := (hp.push (PySem.W.kdv_tup us)).push (PySem.HandSPX.excO C hp.objs.size)
  have kept : ∀ b o, hp.get? b = some o → hp2.get? b = some o := fun b o z => Heap.get?_push_of_some _ (Heap.get?_push_of_some _ z)
  have new : hp2.get? (hp.objs.size + 1) = some (PySem.HandSPX.excO C hp.objs.size) := by heap_get
  have I2 : Inv X pins σ (upd H1 (hp.objs.size + 1) (exo (hp.objs.size + 1) C none)) ⟨hp2, g, dr, tk, os⟩ := I1.laid (t' := tk) (a := hp.objs.size + 1) (o := exo (hp.objs.size + 1) C none) (h' := hp2) kept le (exo_ok new)
  have r2 : Vals (V.ref (hp.objs.size + 1) :: (vs ++ dvs)) (Value.ref (hp.objs.size + 1) :: (us ++ ds)) := .cons rfl (r1.append hd)
  have n : (Value.ref (hp.objs.size + 1) :: us ++ ds).length = ps.length := by
    have z := r2.length
    rw [F1.len _ _ _ _ asked] at z
    exact z.symm
  have small : us.length ≤ sizeLine := by
    rw [← Paired.length r1]
    exact Nat.le_of_lt (small1000 few)
  have run := F1.run _ X.stack _ _ ⟨Value.ref (hp.objs.size + 1) :: us, []⟩ (Value.ref (hp.objs.size + 1) :: (us ++ ds)) _ _ (fun _ _ _ => False) (hr.make C us []) (I2.env0.make C us []) (hb _ (Value.ref (hp.objs.size + 1) :: us) I2.kIn n) r2 asked
  refine wpAny_call (PySem.HandSPX.call_own F (fun _ => rfl) (I1.kIn _ _ hC) (PySem.W.looks_findIn I1.kIn iC) (fun self => PySem.W.bind_fn I1.kIn self tI) small (codeAny_mono run ?_))
  intro r s' z
  match r, z with
  | .error er, z => exact hx pins σ _ _ er s' I2 z
  | .ok .next, z => exact z.elim
  | .ok .brk, z => exact z.elim
  | .ok .cont, z => exact z.elim
  | .ok (.ret v'), z =>
    obtain ⟨v, H2, os2, bare2, un2, hok2, rv, rfl, d, fs, ea, ed, free, q2⟩ := z
    obtain ⟨h2, g2, d2, t2, os'⟩ := s'
    exact ⟨rv, mk_end (raises_own T.exC T.tyC) I1 le kept un2 hok2 os2 bare2 ea ed free q2⟩
end

/-! ### isinstance of the caught error and a built-in class above its own -/
theorem isinstance_own {prog : Program} {w : World} {A : Around} {E : Value → Shared → Prop} {s : Shared} {K : PySem.W.Frag} {x D : Addr} {o : Obj} {T : String} {Q : Value → Shared → Prop} (X : K.In s.heap) (hx : s.heap.get? x = some o) (hc : o.cls = .ref D)
    (ty : typeOf (.type T) = pure (.type "type")) (sub : PySem.W.subIn K (.ref D) (.type T) = some true) (h : Q (.bool true) s) : wpAny (model prog w) A (call (.builtin "isinstance") [.ref x, .type T]) Q E s := by
  apply call_isinstance_of
  · unfold Builtin.«isinstance.nested»
    have L : PySem.W.Looks (model prog w) s.heap (typeOf (.ref x)) (.ref D) := hc ▸ (PySem.W.Looks.ld hx).andThen .now
    refine wpAny_bind (L.here ?_)
    show wpAny _ _ (if (Value.ref D == Value.type T) = true then _ else _) _ _ s
    rw [if_neg (show ¬ ((Value.ref D == Value.type T) = true) from Bool.false_ne_true)]
    refine wpAny_bind (m := typeOf (.type T))
      (wpAny_of_eq ty ?_)
    show wpAny _ _ (if (Value.type "type" == Value.type "type") = true then _ else _) _ _ s
    rw [if_pos (by decide)]
    refine wpAny_bind (wpAny_bind (m := isType (.type T))
      (wpAny_pure (a := true) ?_))
    have L2 : PySem.W.Looks (model prog w) s.heap (isInstance (.ref x) (.type T)) true := L.andThen (PySem.W.looks_subIn X sub)
    refine wpAny_bind (L2.here ?_)
    exact wpAny_pure (wpAny_pure h)
  · intro z
    cases z
def rIsUp (a : Addr) (cls : Value) (K : PySem.W.Frag) : List V → Hp → VK → Prop := fun xs H Q => ∃ (D : Addr) (T : String), xs = [.ref a, .ty T] ∧ cls = .ref D ∧ typeOf (.type T) = pure (.type "type") ∧ PySem.W.subIn K (.ref D) (.type T) = some true ∧ Q (.bl true) H
theorem call_isUp {X : Cx} {a : Addr} {cls : Value} {d : Option Addr} {oe : Obj} {pn : List (Addr × Obj)} (hz : Zc cls d oe) : CallR (X.suite a ((a, oe) :: pn)) (.builtin "isinstance") (rIsUp a cls X.K) := by
  intro pins s σ H xs us Q I r h
  obtain ⟨D, T, rfl, rfl, ty, sub, q⟩ := h
  obtain ⟨u1, u2, rfl, r1, r2⟩ := vals2 r
  cases (show u1 = Value.ref a from r1)
  cases (show u2 = Value.type T from r2)
  obtain ⟨there, _⟩ := I.pin (a, oe) (List.mem_append.mpr (.inl (List.mem_cons_self ..)))
  exact isinstance_own I.kIn there hz.1 ty sub ⟨.bl true, H, I, rfl, q⟩
end Bp
set_option Elab.async false
set_option linter.all false
set_option maxRecDepth 100000
set_option maxHeartbeats 4000000
/-! sorted of tuples whose first things are unlike numbers. -/
namespace SrtO
open PySem PySem.Spec PyProof.Rows Srt
section
variable {prog : Program} {w : World} {A : Around} {E : Value → Shared → Prop} {s : Shared}
def IsNum (h : Heap) (v : Value) (x : Int) : Prop := ∃ a o t u n, v = .ref a ∧ h.get? a = some o ∧ o.cls = .type "tuple" ∧ o.data = .seq #[.int x t, u] n
theorem IsNum.keeps {h h' : Heap} {v : Value} {x : Int} (p : IsNum h v x) (k : ∀ b o, h.get? b = some o → o.cls = .type "tuple" → h'.get? b = some o) : IsNum h' v x := by
  obtain ⟨a, o, t, u, n, e, ho, hc, hd⟩ := p
  exact ⟨a, o, t, u, n, e, k _ _ ho hc, hc, hd⟩
theorem nums_first {h : Heap} : ∀ {vs : List Value}, (∀ v ∈ vs, ∃ x, IsNum h v x) → ∃ fs : List Value, PySem.W.KatTups h vs fs ∧ fs.length = vs.length ∧ ∀ f ∈ fs, ∃ x t, f = Value.int x t
  | [], _ => ⟨[], PySem.W.KatTups.nil, rfl, fun _ hm => by simp at hm⟩
  | v :: vs, hp => by
    obtain ⟨fs, h1, h2, h3⟩ := nums_first (vs := vs) fun v' hm => hp v' (List.mem_cons_of_mem _ hm)
    obtain ⟨x, a, o, t, u, n, e, ho, hc, hd⟩ := hp v (List.mem_cons_self ..)
    subst e
    refine ⟨.int x t :: fs, PySem.W.KatTups.cons ho hc hd rfl h1, by rw [List.length_cons, List.length_cons, h2], fun f hm => ?_⟩
    rcases List.mem_cons.mp hm with rfl | hm
    · exact ⟨x, t, rfl⟩
    · exact h3 f hm
theorem num_cmp {vs : List Value} {k : Value → Int} (hp : ∀ v ∈ vs, IsNum s.heap v (k v)) (inj : ∀ v ∈ vs, ∀ u ∈ vs, k v = k u → v = u) : Cmp prog w A s (tuples' true) (fun p => p.1 ∈ vs) (lt2 fun v u => decide (k v < k u)) := by
  intro p q hm hm'
  show wpAny (model prog w) A (keyLt' (tuples' true) p.1 q.1) (fun r s' => s' = s ∧ r = decide (k p.1 < k q.1)) (fun _ _ => False) s
  by_cases same : p.1 = q.1
  · rw [← same]
    obtain ⟨a, o, t, u, n, e, ho, hc, hd⟩ := hp _ hm
    rw [e]
    refine PySem.W.kat_lt ho hd ho hd ?_
    show PySem.W.KatLex prog w A true (decide (2 < 2)) _ [(.int _ t, .int _ t), (u, u)] 0 s
    refine PySem.W.kat_cons (SeqAt.EqAt.same _ prog w _ _ ?_)
    refine PySem.W.kat_go (fun _ => ?_) (fun e1 => by cases e1)
    refine PySem.W.kat_yes (PySem.W.kat_cons (SeqAt.EqAt.same _ prog w _ _ ?_))
    refine PySem.W.kat_go (fun _ => ?_) (fun e1 => by cases e1)
    exact PySem.W.kat_yes (PySem.W.kat_nil ⟨rfl, (decide_eq_false (Int.lt_irrefl _)).symm⟩)
  · have ne : ¬ k p.1 = k q.1 := fun z => same (inj _ hm _ hm' z)
    have h1 := hp _ hm
    have h2 := hp _ hm'
    generalize k p.1 = x at h1 ne ⊢
    generalize k q.1 = x' at h2 ne ⊢
    obtain ⟨a, o, t, u, n, e, ho, hc, hd⟩ := h1
    obtain ⟨a', o', t', u', n', e', ho', hc', hd'⟩ := h2
    rw [e, e']
    refine PySem.W.kat_lt ho hd ho' hd' ?_
    show PySem.W.KatLex prog w A true (decide (2 < 2)) _ [(.int x t, .int x' t'), (u, u')] 0 s
    refine PySem.W.kat_cons (SeqAt.EqAt.int_int x t x' t' prog w _ _ ?_)
    refine PySem.W.kat_go (fun e1 => absurd (by simpa using e1) ne) (fun _ => ?_)
    exact PySem.W.kat_no (oneLt_int ⟨rfl, rfl⟩)
theorem swo_num (k : Value → Int) : Swo fun v u => decide (k v < k u) := by
  refine ⟨fun x y h => ?_, fun x y z h1 h2 => ?_⟩
  · have := of_decide_eq_true h
    exact decide_eq_false (by omega)
  · have a := of_decide_eq_false h1
    have b := of_decide_eq_false h2
    exact decide_eq_false (by omega)
theorem nums_sortable {a : Addr} {vs : List Value} {k : Value → Int} (h0 : 0 < vs.length) (hp : ∀ v ∈ vs, IsNum s.heap v (k v)) (inj : ∀ v ∈ vs, ∀ u ∈ vs, k v = k u → v = u) (ha : ∀ o, s.heap.get? a = some o → o.cls ≠ .type "tuple") : SortableO prog w A s a vs fun v u => decide (k v < k u) := by
  intro h' keep
  have hp' : ∀ v ∈ vs, IsNum h' v (k v) := fun v hm => (hp v hm).keeps fun b o e c => keep b o (fun z => by subst z; exact ha o e c) e
  obtain ⟨fs, h1, h2, h3⟩ := nums_first fun v hm => ⟨_, hp' v hm⟩
  refine ⟨tuples' true, fun Q E hq => ?_, num_cmp hp' inj⟩
  refine PySem.W.kat_kind (T := .type "int") h1 (by omega) (fun f hm => ?_) (by rfl) ?_
  · obtain ⟨x, t, rfl⟩ := h3 f hm
    exact PySem.W.Looks.now
  · have e : (Value.type "int" != Value.type "tuple") = true := by first | decide +kernel | rfl | decide
    rw [e]
    exact hq
theorem sorted_nums {l : Addr} {vs : List Value} {k : Value → Int} {Q : Value → Shared → Prop} (hl : s.heap.IsList l vs.toArray) (hz : vs.length ≤ sizeLine) (hp : ∀ v ∈ vs, IsNum s.heap v (k v)) (inj : ∀ v ∈ vs, ∀ u ∈ vs, k v = k u → v = u)
    (h : ∀ (h' : Heap) (d : Addr) (out : List Value), Srtd (fun v u => decide (k v < k u)) out → Stb (fun v u => decide (k v < k u)) out vs → (∀ b o, s.heap.get? b = some o → h'.get? b = some o) → s.heap.objs.size ≤ d → (∃ n, h'.get? d = some (seqObj "list" out.toArray n)) → Q (.ref d) { s with heap := h' }) :
    wpAny (model prog w) A (call (.builtin "sorted") [.ref l]) Q E s := by
  refine sorted_ord (swo_num k) hl hz (fun h2 h₁ a ha kk => ?_) fun out hs hb => ?_
  · refine nums_sortable (s := { s with heap := h₁ }) (by omega) (fun v hm => (hp v hm).keeps fun b o e _ => (kk b o e).2) inj fun o e => ?_
    have e' : some o = some (seqObj "list" vs.toArray 0) := e.symm.trans ha
    cases e'
    intro c
    exact absurd (Value.type.inj c) (by decide)
  · exact h _ _ out hs hb (fun b o e => sortedAll_old e) (Nat.le_succ _) (sortedAll_at s.heap vs out.toArray)
end
end SrtO
namespace Bp
open PySem PySem.Spec PyProof.Rows L2
def rSortedN (K : PySem.W.Frag) : List V → Hp → VK → Prop := fun vs H Q => ∃ (a : Addr) (xs : List V) (k : V → Int) (z : V → V), vs = [V.ref a] ∧ SqL K H a xs ∧ (∀ x ∈ xs, ∃ t, x = V.ref t ∧ H t = some (.tup [.int (k x), z x])) ∧ (∀ x ∈ xs, ∀ y ∈ xs, k x = k y → x = y) ∧
  ∀ ys p, ys.Perm xs → ys.Pairwise (fun x y => k x ≤ k y) → H p = none → Q (.ref p) (upd H p (.lst ys))
section
variable {X : Cx}
theorem cr_sortedN : CallR X (.builtin "sorted") (rSortedN X.K) := by
  intro pins s σ H vs us Q I r h
  obtain ⟨a, xs, k, z, rfl, hs, hx, inj, q⟩ := h
  obtain ⟨its, rv, hl, hz⟩ := I.list hs
  obtain ⟨u, rfl, ru⟩ := vals1 r
  obtain rfl : u = Value.ref a := ru
  obtain ⟨e1, e2⟩ := refs_back rv fun x m => by
    obtain ⟨t, e, _⟩ := hx x m
    exact ⟨t, e⟩
  have inj' : ∀ v ∈ its, ∀ u ∈ its, k (backV v) = k (backV u) → v = u := fun v hv u hu e => by
    obtain ⟨t, rfl⟩ := e2 v hv
    obtain ⟨t', rfl⟩ := e2 u hu
    have m1 : V.ref t ∈ xs := by rw [e1]; exact List.mem_map.mpr ⟨_, hv, rfl⟩
    have m2 : V.ref t' ∈ xs := by rw [e1]; exact List.mem_map.mpr ⟨_, hu, rfl⟩
    have := inj _ m1 _ m2 e
    cases this
    rfl
  refine SrtO.sorted_nums (k := fun u => k (backV u)) hl.isList (by rw [← rv.length]; exact hz) (fun v hv => ?_) inj' fun h' d out h1 h2 kp hd hn => ?_
  · obtain ⟨t, rfl⟩ := e2 v hv
    have hm : V.ref t ∈ xs := by rw [e1]; exact List.mem_map.mpr ⟨_, hv, rfl⟩
    obtain ⟨t', e, ht⟩ := hx _ hm
    cases e
    obtain ⟨_, its2, r2, o, ho, hc, n, hd⟩ := I.hok _ _ ht
    obtain ⟨u1, u2, rfl, ri, rj⟩ := vals2 r2
    obtain ⟨t1, rfl⟩ := ri
    exact ⟨t, o, t1, u2, n, rfl, ho, hc, hd⟩
  · have h3 : ∀ u ∈ out, ∃ a, u = Value.ref a := fun u hu => e2 u (h2.perm.mem_iff.mp hu)
    obtain ⟨n, hn⟩ := hn
    have pm : (out.map backV).Perm xs := by
      rw [e1]
      exact h2.perm.map backV
    have pw : (out.map backV).Pairwise (fun x y => k x ≤ k y) := by
      refine List.pairwise_map.mpr (List.Pairwise.imp (fun {x y} h => ?_) h1)
      have := of_decide_eq_false h
      omega
    refine ⟨.ref d, upd H d (.lst (out.map backV)), I.laid (t' := s.toks) kp hd ⟨?_, out, n, vals_back h3, hn⟩, rfl, q _ d pm pw (I.hok.fresh hd)⟩
    rw [pm.length_eq]
    exact hz
end
end Bp
set_option Elab.async false
set_option linter.all false
/-! Maps of signs, done again and again. -/
namespace K33
open Bp
/-- first one, then other -/
def thn (s one other : List Nat) : List Nat := one.map fun c => other.getD (s.idxOf c) 0
/-- a map of the signs s -/
def IsMap (s m : List Nat) : Prop := m.length = s.length ∧ ∀ c ∈ m, c ∈ s
theorem isMap_self (s : List Nat) : IsMap s s := ⟨rfl, fun _ h => h⟩
theorem getD_mem {l : List Nat} {i : Nat} (h : i < l.length) : l.getD i 0 ∈ l := by
  rw [List.getD_eq_getElem?_getD, List.getElem?_eq_getElem h]
  exact List.getElem_mem h
theorem isMap_thn {s one other : List Nat} (h1 : IsMap s one) (h2 : IsMap s other) : IsMap s (thn s one other) := by
  refine ⟨by unfold thn; rw [List.length_map]; exact h1.1, fun c hc => ?_⟩
  obtain ⟨d, hd, rfl⟩ := List.mem_map.mp hc
  exact h2.2 _ (getD_mem (by rw [h2.1]; exact List.idxOf_lt_length_of_mem (h1.2 d hd)))
/-- one done n times -/
def pw (s one : List Nat) : Nat → List Nat
  | 0 => s
  | n + 1 => thn s (pw s one n) one
theorem isMap_pw {s one : List Nat} (h : IsMap s one) : ∀ n, IsMap s (pw s one n)
  | 0 => isMap_self s
  | n + 1 => isMap_thn (isMap_pw h n) h
/-- one done 0, 1, .. n - 1 times -/
def pws (s one : List Nat) (n : Nat) : List (List Nat) := (List.range n).map (pw s one)
theorem pws_len (s one : List Nat) (n : Nat) : (pws s one n).length = n := by unfold pws; rw [List.length_map, List.length_range]
theorem pws_succ (s one : List Nat) (n : Nat) : pws s one (n + 1) = pws s one n ++ [pw s one n] := by
  unfold pws
  rw [List.range_succ, List.map_append]
  rfl
theorem pws_get {s one : List Nat} {n i : Nat} (h : i < n) : (pws s one n)[i]? = some (pw s one i) := by
  unfold pws
  rw [List.getElem?_map, List.getElem?_range h]
  rfl
/-- n is the first number at which it comes again -/
def Cyc (s one : List Nat) (n : Nat) : Prop := pw s one n ∈ pws s one n ∧ ∀ m, m < n → pw s one m ∉ pws s one m
theorem Cyc.one {s o : List Nat} {n m : Nat} (h : Cyc s o n) (h' : Cyc s o m) : n = m := by
  rcases Nat.lt_trichotomy n m with z | z | z
  · exact absurd h.1 (h'.2 n z)
  · exact z
  · exact absurd h'.1 (h.2 m z)
theorem Cyc.pos {s o : List Nat} {n : Nat} (h : Cyc s o n) : 1 ≤ n := by
  rcases n with _ | n
  · have := h.1
    unfold pws at this
    simp at this
  · omega
/-! ### they come again -/
def alls (s : List Nat) : Nat → List (List Nat)
  | 0 => [[]]
  | k + 1 => s.flatMap fun c => (alls s k).map (c :: ·)
theorem alls_len (s : List Nat) : ∀ k, (alls s k).length = s.length ^ k
  | 0 => rfl
  | k + 1 => by
    unfold alls
    rw [List.length_flatMap]
    have : (s.map fun a => ((alls s k).map (a :: ·)).length) = s.map fun _ => s.length ^ k := List.map_congr_left fun a _ => by rw [List.length_map, alls_len s k]
    rw [this]
    have sum : ∀ (l : List Nat) (x : Nat), (l.map fun _ => x).sum = l.length * x := by
      intro l x
      induction l with
      | nil => simp
      | cons a l ih => rw [List.map_cons, List.sum_cons, ih, List.length_cons, Nat.succ_mul, Nat.add_comm]
    rw [sum, Nat.pow_succ, Nat.mul_comm]
theorem mem_alls {s : List Nat} : ∀ {m : List Nat}, (∀ c ∈ m, c ∈ s) → m ∈ alls s m.length
  | [], _ => List.mem_singleton.mpr rfl
  | c :: m, h => by
    show c :: m ∈ s.flatMap fun c => (alls s m.length).map (c :: ·)
    exact List.mem_flatMap.mpr ⟨c, h c (List.mem_cons_self ..), List.mem_map.mpr ⟨m, mem_alls fun d hd => h d (List.mem_cons_of_mem _ hd), rfl⟩⟩
theorem nodup_le {α : Type} [DecidableEq α] : ∀ {l m : List α}, l.Nodup → (∀ x ∈ l, x ∈ m) → l.length ≤ m.length
  | [], _, _, _ => Nat.zero_le _
  | a :: l, m, nd, h => by
    obtain ⟨na, nd'⟩ := List.nodup_cons.mp nd
    have ha : a ∈ m := h a (List.mem_cons_self ..)
    have le := nodup_le (l := l) (m := m.erase a) nd' fun x hx => (List.mem_erase_of_ne (by intro e; subst e; exact na hx)).mpr (h x (List.mem_cons_of_mem _ hx))
    rw [List.length_erase_of_mem ha] at le
    have : 0 < m.length := List.length_pos_of_mem ha
    rw [List.length_cons]
    omega
theorem pws_nodup {s one : List Nat} : ∀ {n : Nat}, (∀ m, m < n → pw s one m ∉ pws s one m) → (pws s one n).Nodup
  | 0, _ => by unfold pws; exact List.nodup_nil
  | n + 1, h => by
    rw [pws_succ]
    refine List.nodup_append.mpr ⟨pws_nodup fun m hm => h m (by omega), List.nodup_cons.mpr ⟨by simp, List.nodup_nil⟩, ?_⟩
    intro a ha b hb e
    rw [List.mem_singleton.mp hb] at e
    exact h n (Nat.lt_succ_self _) (e ▸ ha)
theorem pws_few {s one : List Nat} (hs : s.length ≤ 4) (h : IsMap s one) {n : Nat} (no : ∀ m, m < n → pw s one m ∉ pws s one m) : n ≤ 256 := by
  have nd := pws_nodup no
  have le := nodup_le nd (m := alls s s.length) fun x hx => by
    unfold pws at hx
    obtain ⟨i, _, rfl⟩ := List.mem_map.mp hx
    have := isMap_pw h i
    rw [← this.1]
    exact mem_alls this.2
  rw [pws_len, alls_len] at le
  have : s.length ^ s.length ≤ 4 ^ 4 := Nat.le_trans (Nat.pow_le_pow_left hs _) (Nat.pow_le_pow_right (by decide) hs)
  omega
/-! ### one to one: sorted it is the signs just where each sign is there -/
/-- the signs: unlike, rising, two to four -/
structure Signs (s : List Nat) : Prop where
  up : s.Pairwise (· < ·)
  lo : 2 ≤ s.length
  hi : s.length ≤ 4
  small : ∀ c ∈ s, 97 ≤ c ∧ c ≤ 122
theorem Signs.nd {s : List Nat} (h : Signs s) : s.Nodup := h.up.imp fun {a b} z e => by omega
theorem perm_of_all {s m : List Nat} (nd : s.Nodup) (hm : IsMap s m) (all : ∀ c ∈ s, c ∈ m) : m.Perm s := by
  -- s lies in m, and both are as long
  have key : ∀ (s m : List Nat), s.Nodup → m.length = s.length → (∀ c ∈ s, c ∈ m) → m.Perm s := by
    intro s
    induction s with
    | nil =>
      intro m _ hl _
      rw [List.length_eq_zero_iff.mp hl]
    | cons a s ih =>
      intro m nd hl h
      obtain ⟨na, nd'⟩ := List.nodup_cons.mp nd
      have ha : a ∈ m := h a (List.mem_cons_self ..)
      have p := List.perm_cons_erase ha
      refine p.trans (List.Perm.cons a (ih _ nd' ?_ ?_))
      · rw [List.length_erase_of_mem ha, hl]
        rfl
      · intro c hc
        exact (List.mem_erase_of_ne (by intro e; subst e; exact na hc)).mpr (h c (List.mem_cons_of_mem _ hc))
  exact key s m nd hm.1 all
/-! ### sorted texts of one sign each -/
open PySem PyProof.Rows in
theorem rising_ones : ∀ (r : List Nat) (p : Nat), risingS (tx [p]) (ones r) = true → (p :: r).Pairwise (· ≤ ·)
  | [], p, _ => List.pairwise_singleton _ _
  | x :: r, p, h => by
    have h' : (!PySem.Spec.ltCps (tx [x]).cps.toList (tx [p]).cps.toList && risingS (tx [x]) (ones r)) = true := h
    obtain ⟨h1, h2⟩ := Bool.and_eq_true_iff.mp h'
    have ih := rising_ones r x h2
    have le : p ≤ x := by
      rw [ltCps_eq, tx_list, tx_list] at h1
      have : ¬ ([x] < [p]) := by
        intro z
        rw [decide_eq_true z] at h1
        cases h1
      rcases Nat.lt_or_ge x p with z | z
      · exact absurd (List.Lex.rel z) this
      · exact z
    refine List.pairwise_cons.mpr ⟨fun y hy => ?_, ih⟩
    rcases List.mem_cons.mp hy with rfl | hy
    · exact le
    · exact Nat.le_trans le ((List.pairwise_cons.mp ih).1 y hy)
open PySem PyProof.Rows in
theorem sorted_ones : ∀ {r : List Nat}, sortedS (ones r) = true → r.Pairwise (· ≤ ·)
  | [], _ => List.Pairwise.nil
  | x :: r, h => rising_ones r x h
open PySem in
theorem ones_inj : ∀ {a b : List Nat}, ones a = ones b → a = b
  | [], [], _ => rfl
  | [], _ :: _, h => by cases h
  | _ :: _, [], h => by cases h
  | x :: a, y :: b, h => by
    have h' : tx [x] :: ones a = tx [y] :: ones b := h
    obtain ⟨h1, h2⟩ := List.cons.inj h'
    have e := tx_inj h1
    rw [List.singleton_inj.mp e, ones_inj h2]
open PySem in
theorem perm_ones {ys : List Str} {m : List Nat} (h : ys.Perm (ones m)) : ∃ zs, ys = ones zs ∧ zs.Perm m := by
  refine ⟨ys.map fun y => y.cps.toList.headD 0, ?_, ?_⟩
  · unfold ones
    rw [List.map_map]
    refine (List.map_id ys).symm.trans (List.map_congr_left fun y hy => ?_)
    obtain ⟨c, _, rfl⟩ := List.mem_map.mp (h.mem_iff.mp hy)
    show tx [c] = tx [(tx [c]).cps.toList.headD 0]
    rw [tx_list]
    rfl
  · have p := h.map fun y : Str => y.cps.toList.headD 0
    unfold ones at p
    rw [List.map_map] at p
    have e : m.map ((fun y : Str => y.cps.toList.headD 0) ∘ fun c => tx [c]) = m := by
      refine (List.map_congr_left fun c _ => ?_).trans (List.map_id m)
      show (tx [c]).cps.toList.headD 0 = c
      rw [tx_list]
      rfl
    rwa [e] at p
open PySem PyProof.Rows in
/-- sorted, a map is the signs just where each sign is in it -/
theorem sorted_is {s m : List Nat} (hs : Signs s) (hm : IsMap s m) {ys : List Str} (p : ys.Perm (ones m)) (srt : sortedS ys = true) : ys = ones s ↔ ∀ c ∈ s, c ∈ m := by
  obtain ⟨zs, rfl, pz⟩ := perm_ones p
  constructor
  · intro e c hc
    rw [← ones_inj e] at hc
    exact pz.mem_iff.mp hc
  · intro all
    have pm := perm_of_all hs.nd hm all
    have up := sorted_ones srt
    have us : s.Pairwise (· ≤ ·) := hs.up.imp fun {a b} z => Nat.le_of_lt z
    rw [List.Perm.eq_of_pairwise (le := (· ≤ ·)) (fun a b _ _ h1 h2 => Nat.le_antisymm h1 h2) up us (pz.trans pm)]
end K33
set_option Elab.async false
set_option linter.all false
/-! Where the text's defs stand. -/
namespace K05
open PySem L2
def topS (i : Nat) : Stmt := PySem.Challenge.pw_bandprint_k05_whole_passes_add_up.main.body.getD i (.Pass ⟨0, 0, 0, 0⟩)
abbrev s_copied : Stmt := topS 2
abbrev s_NoBand_init : Stmt := inClass (topS 3) 0
abbrev s_NoPress_init : Stmt := inClass (topS 4) 0
abbrev s_NoWork_init : Stmt := inClass (topS 5) 0
abbrev s_NoSide_init : Stmt := inClass (topS 6) 0
abbrev s_NoPlace_init : Stmt := inClass (topS 7) 0
abbrev s_is_whole : Stmt := topS 10
abbrev s_is_within : Stmt := topS 11
abbrev s_is_listed : Stmt := topS 12
abbrev s_are_letters : Stmt := topS 13
abbrev s_is_name : Stmt := topS 14
abbrev s_are_signs : Stmt := topS 15
abbrev s_is_place : Stmt := topS 16
abbrev s_is_long : Stmt := topS 24
abbrev s_is_pace : Stmt := topS 25
abbrev s_Band_init : Stmt := inClass (topS 26) 0
abbrev s_Band_eq : Stmt := inClass (topS 26) 1
abbrev s_Band_called : Stmt := inClass (topS 26) 2
abbrev s_Band_long : Stmt := inClass (topS 26) 3
abbrev s_Band_pace : Stmt := inClass (topS 26) 4
abbrev s_is_side_number : Stmt := topS 27
abbrev s_is_side : Stmt := topS 28
abbrev s_is_table : Stmt := topS 29
abbrev s_is_rhythm : Stmt := topS 30
abbrev s_Press_init : Stmt := inClass (topS 31) 0
abbrev s_Press_eq : Stmt := inClass (topS 31) 1
abbrev s_Press_above : Stmt := inClass (topS 31) 2
abbrev s_Press_below : Stmt := inClass (topS 31) 3
abbrev s_Press_table : Stmt := inClass (topS 31) 4
abbrev s_Press_rhythm : Stmt := inClass (topS 31) 5
abbrev s_are_bands : Stmt := topS 32
abbrev s_places_of : Stmt := topS 33
abbrev s_band_called : Stmt := topS 34
abbrev s_is_press_for : Stmt := topS 35
abbrev s_are_presses : Stmt := topS 36
abbrev s_Work_init : Stmt := inClass (topS 37) 0
abbrev s_Work_eq : Stmt := inClass (topS 37) 1
abbrev s_Work_len : Stmt := inClass (topS 37) 2
abbrev s_Work_signs : Stmt := inClass (topS 37) 3
abbrev s_Work_bands : Stmt := inClass (topS 37) 4
abbrev s_Work_presses : Stmt := inClass (topS 37) 5
abbrev s_Work_places : Stmt := inClass (topS 37) 6
abbrev s_Work_has_place : Stmt := inClass (topS 37) 7
abbrev s_Work_place_in : Stmt := inClass (topS 37) 8
abbrev s_Work_has_press : Stmt := inClass (topS 37) 9
abbrev s_Work_common : Stmt := inClass (topS 37) 10
abbrev s_where : Stmt := topS 39
abbrev s_side_of : Stmt := topS 40
abbrev s_passes : Stmt := topS 41
abbrev s_how_many_passes : Stmt := topS 42
abbrev s_next_pass : Stmt := topS 43
abbrev s_law_feed : Stmt := topS 45
abbrev s_law_draw : Stmt := topS 46
abbrev s_law_pick : Stmt := topS 47
abbrev s_law_names : Stmt := topS 48
abbrev s_law_signs : Stmt := topS 49
abbrev s_law_table : Stmt := topS 50
abbrev s_law_raw : Stmt := topS 51
abbrev s_law_made : Stmt := topS 52
abbrev s_law_far : Stmt := topS 53
abbrev s_law_beats_with : Stmt := topS 54
abbrev s_law_adds_up : Stmt := topS 55
abbrev s_law_comes_again : Stmt := topS 56
abbrev s_law : Stmt := topS 57
end K05
set_option Elab.async false
set_option linter.all false
set_option maxRecDepth 100000
set_option maxHeartbeats 1000000
/-! What is a name, a place, signs: of such as are. -/
namespace K05
open PySem PySem.Spec PyProof.Rows L2 Bp
/-- the built-in names that the text asks for -/
structure Blt (mg : Str → Option Value) : Prop where
  isi : mg "isinstance" = none
  int : mg "int" = none
  bool : mg "bool" = none
  str : mg "str" = none
  list : mg "list" = none
  tuple : mg "tuple" = none
  all : mg "all" = none
  len : mg "len" = none
  rng : mg "range" = none
  sum : mg "sum" = none
  set : mg "set" = none
  enu : mg "enumerate" = none
  fastest : ∃ t, mg "_FASTEST" = some (.int (10 ^ 12) t)
  lets : ∃ t, mg "_LETTERS" = some (.str "abcdefghijklmnopqrstuvwxyz" t)
/-- a def of the text, as it is called -/
structure Def (P : Program) (w : World) (K : PySem.W.Frag) (mg : Str → Option Value) (base : Heap) (CX : CXT) (k : Nat) (x : Str) (st : Stmt) (ps : List Str) (sp : Sp) : Prop where
  ex : ∃ (f : Addr) (fd : FuncData), Fun K x x st f fd ∧ Binds K fd ps [] ∧ mg x = some (.ref f) ∧ FnOk P w K mg base CX k f fd ps sp
section
variable {P : Program} {w : World} {K : PySem.W.Frag} {mg : Str → Option Value} {base : Heap}
/-! ### is_whole -/
theorem sc_is_whole : FnScope ["thing"] ["thing"] (defScope s_is_whole) := ⟨rfl, rfl, rfl, by decide +kernel, rfl, by decide +kernel, by decide +kernel⟩
def sp_is_whole : Sp := fun vs H Q _ => ∃ i : Int, vs = [.int i] ∧ Q (.bl true) H
theorem ok_is_whole {f : Addr} {fd : FuncData} {k : Nat} (B : Blt mg) (F : Fun K "is_whole" "is_whole" s_is_whole f fd) : FnOk P w K mg base CX0 (k + 1) f fd ["thing"] sp_is_whole := by
  refine F.ok sc_is_whole (fun vs H Q E h => ?_) (fun cdv A outer s H vs Q E hr h => ?_)
  · obtain ⟨i, rfl, _⟩ := h
    rfl
  · obtain ⟨i, rfl, q⟩ := h
    refine ⟨_, pss_one (ps_ret (pe_and (pe_callB call_isi (by rfl) B.isi (by decide +kernel) (pa_cons (pv 0) (pa_cons (pe_bltn (u := .type "int") (v := .ty "int") (by rfl) B.int (by decide +kernel) (by rfl)) pa_nil)))
      (pe_one (pe_not (pe_callB call_isi (by rfl) B.isi (by decide +kernel) (pa_cons (pv 0) (pa_cons (pe_bltn (u := .type "bool") (v := .ty "bool") (by rfl) B.bool (by decide +kernel) (by rfl)) pa_nil))))))), ?_⟩
    refine ⟨.int i, rfl, .int i, .ty "int", .type "int", .type "int", true, rfl, .ty _, .base (.int i), kit_ty (by decide +kernel), true, rfl, iteT ?_⟩
    exact ⟨.int i, rfl, .int i, .ty "bool", .type "int", .type "bool", false, rfl, .ty _, .base (.int i), kit_ty (by decide +kernel), false, rfl, q⟩
/-! ### is_within -/
theorem sc_is_within : FnScope ["thing", "least", "most"] ["thing", "least", "most"] (defScope s_is_within) := ⟨rfl, rfl, rfl, by decide +kernel, rfl, by decide +kernel, by decide +kernel⟩
def sp_is_within : Sp := fun vs H Q _ => ∃ i a b : Int, vs = [.int i, .int a, .int b] ∧ Q (.bl (decide (a ≤ i ∧ i ≤ b))) H
theorem ok_is_within {f : Addr} {fd : FuncData} {k : Nat} (D : Def P w K mg base CX0 k "is_whole" s_is_whole ["thing"] sp_is_whole) (F : Fun K "is_within" "is_within" s_is_within f fd) : FnOk P w K mg base CX0 (k + 1) f fd ["thing", "least", "most"] sp_is_within := by
  obtain ⟨f1, fd1, F1, b1, g1, G1⟩ := D.ex
  refine F.ok sc_is_within (fun vs H Q E h => ?_) (fun cdv A outer s H vs Q E hr h => ?_)
  · obtain ⟨i, a, b, rfl, _⟩ := h
    rfl
  · obtain ⟨i, a, b, rfl, q⟩ := h
    refine ⟨_, pss_one (ps_ret (pe_and (pe_call G1 hr rfl g1 F1.kp b1 .nil pass0 (pa_cons (pv 0) pa_nil)) (pe_one (pe_chain op_le op_le (pv 1) (pv 0) (pv 2))))), ?_⟩
    refine ⟨.int i, rfl, i, rfl, true, rfl, iteT ?_⟩
    refine ⟨.int a, rfl, .int i, rfl, a, i, rfl, rfl, _, rfl, ?_⟩
    by_cases c : a ≤ i
    · refine yesOf (decide_eq_true c) ?_
      refine ⟨.int b, rfl, i, b, rfl, rfl, ?_⟩
      have e : decide (a ≤ i ∧ i ≤ b) = decide (i ≤ b) := decide_eq_decide.mpr ⟨fun h => h.2, fun h => ⟨c, h⟩⟩
      rw [e] at q
      exact q
    · refine noOf (decide_eq_false c) ?_
      have e : decide (a ≤ i ∧ i ≤ b) = false := decide_eq_false fun h => c h.1
      rw [e] at q
      exact q
/-! ### is_listed -/
theorem sc_is_listed : FnScope ["thing"] ["thing"] (defScope s_is_listed) := ⟨rfl, rfl, rfl, by decide +kernel, rfl, by decide +kernel, by decide +kernel⟩
def sp_is_listed : Sp := fun vs H Q _ => ∃ a : Addr, vs = [.ref a] ∧ ((∃ xs, H a = some (.lst xs)) ∨ ∃ xs, H a = some (.tup xs)) ∧ ∀ H', Same H H' → Q (.bl true) H'
theorem ok_is_listed {f : Addr} {fd : FuncData} {k : Nat} (B : Blt mg) (F : Fun K "is_listed" "is_listed" s_is_listed f fd) : FnOk P w K mg base CX0 (k + 1) f fd ["thing"] sp_is_listed := by
  refine F.ok sc_is_listed (fun vs H Q E h => ?_) (fun cdv A outer s H vs Q E hr h => ?_)
  · obtain ⟨i, rfl, _⟩ := h
    rfl
  · obtain ⟨a, rfl, ha, q⟩ := h
    refine ⟨_, pss_one (ps_ret (pe_callB call_isiT (by rfl) B.isi (by decide +kernel) (pa_cons (pv 0) (pa_cons (pe_tup (pa_cons (pe_bltn (u := .type "list") (v := .ty "list") (by rfl) B.list (by decide +kernel) (by rfl)) (pa_cons (pe_bltn (u := .type "tuple") (v := .ty "tuple") (by rfl) B.tuple (by decide +kernel) (by rfl)) pa_nil))) pa_nil)))), ?_⟩
    refine ⟨.ref a, rfl, (by show 2 ≤ sizeLine; decide), fun t nt => ?_⟩
    have sm : Same H (upd H t (.tup [.ty "list", .ty "tuple"])) := same_new nt
    rcases ha with ⟨xs, e⟩ | ⟨xs, e⟩
    · exact ⟨.ref a, t, _, .type "list", [.type "list", .type "tuple"], true, rfl, upd_same, .cons (.ty _) (.cons (.ty _) .nil), .base (.lst (sm _ _ e)), kitAny_cons (b := true) (kit_ty (by decide +kernel)) (fun z => Bool.noConfusion z) (fun _ => rfl), q _ sm⟩
    · exact ⟨.ref a, t, _, .type "tuple", [.type "list", .type "tuple"], true, rfl, upd_same, .cons (.ty _) (.cons (.ty _) .nil), .base (.tup (sm _ _ e)), kitAny_cons (b := false) (kit_ty (by decide +kernel)) (fun _ => kitAny_cons (b := true) (kit_ty (by decide +kernel)) (fun z => Bool.noConfusion z) (fun _ => rfl)) (fun z => Bool.noConfusion z), q _ sm⟩
/-! ### are_letters -/
theorem sc_are_letters : FnScope ["thing", "letter"] ["thing"] (defScope s_are_letters) := ⟨rfl, rfl, rfl, by decide +kernel, rfl, by decide +kernel, by decide +kernel⟩
theorem in_alphabet {c : Nat} (h : 97 ≤ c ∧ c ≤ 122) : c ∈ ("abcdefghijklmnopqrstuvwxyz" : Str).cps.toList := by
  have e : ("abcdefghijklmnopqrstuvwxyz" : Str) = tx (List.range' 97 26) := by decide +kernel
  rw [e, tx_list]
  exact List.mem_range'_1.mpr ⟨h.1, by omega⟩
def sp_are_letters : Sp := fun vs H Q _ => ∃ m : List Nat, vs = [.str (tx m)] ∧ Low m ∧ m.length ≤ 1000 ∧ ∀ H', Same H H' → Q (.bl true) H'
theorem ok_are_letters {f : Addr} {fd : FuncData} {k : Nat} (B : Blt mg) (F : Fun K "are_letters" "are_letters" s_are_letters f fd) : FnOk P w K mg base CX0 (k + 1) f fd ["thing"] sp_are_letters := by
  refine F.ok sc_are_letters (fun vs H Q E h => ?_) (fun cdv A outer s H vs Q E hr h => ?_)
  · obtain ⟨i, rfl, _⟩ := h
    rfl
  · obtain ⟨m, rfl, low, few, q⟩ := h
    obtain ⟨tk, gl⟩ := B.lets
    refine ⟨_, pss_one (ps_ret (pe_and (pe_callB call_isi (by rfl) B.isi (by decide +kernel) (pa_cons (pv 0) (pa_cons (pe_bltn (u := .type "str") (v := .ty "str") (by rfl) B.str (by decide +kernel) (by rfl)) pa_nil)))
      (pe_one (pe_callB (cr_all rfl) (by rfl) B.all (by decide +kernel) (pa_cons (pe_lc (own := [("letter", 1)]) (g := gName 1) (tt := tYes) rfl sc_are_letters.nd (pi_str (pv 0)) (blkOk_by (own := [("letter", 1)]) (N := ["thing", "letter"]) (sc := defScope s_are_letters) (by decide +kernel))
        (fun _ _ _ _ _ => pg_name (i := 1) sc_are_letters.nd rfl (Or.inl rfl)) (fun _ _ _ _ _ => pts_nil) (fun _ _ _ _ _ => pe_cmpR op_in_sign (pv 1) (pe_glob (v := .str "abcdefghijklmnopqrstuvwxyz") (by rfl) gl ⟨_, rfl⟩) (by rfl))) pa_nil))))), ?_⟩
    refine ⟨.str (tx m), rfl, .str (tx m), .ty "str", .type "str", .type "str", true, rfl, .ty _, .base (.str _), kit_ty (by decide +kernel), true, rfl, iteT ?_⟩
    refine ⟨.str (tx m), rfl, tx m, rfl, fun D nD => ?_⟩
    refine lc_true (H := H) (walk_str (z := tx m)) (fun _ _ => trivial) (by rw [show (tx m).cps.size = m.length from tx_len m]; exact few) nD ?_ ?_ mono_name
    · rintro i x H1 H2 Qy hi sm ⟨rfl, c, hc, rfl⟩ qy
      have hc' : m[i]? = some c := by rw [← tx_list m, Array.getElem?_toList]; exact hc
      refine ⟨rfl, .str (tx [c]), rfl, c, "abcdefghijklmnopqrstuvwxyz", rfl, rfl, ?_⟩
      rw [decide_eq_true (in_alphabet (low c (List.mem_of_getElem? hc')))]
      exact qy _ (Same.refl _)
    · intro H1 sm hD
      refine ⟨D, _, rfl, SqL.of hD, ?_⟩
      rw [all_true]
      exact q H1 sm
theorem qbl {Q : VK} {H : Hp} {b : Bool} (h : b = true) (q : Q (.bl true) H) : Q (.bl b) H := h ▸ q
/-! ### is_name -/
structure Nm (m : List Nat) : Prop where
  low : Low m
  lo : 1 ≤ m.length
  hi : m.length ≤ 8
theorem sc_is_name : FnScope ["thing"] ["thing"] (defScope s_is_name) := ⟨rfl, rfl, rfl, by decide +kernel, rfl, by decide +kernel, by decide +kernel⟩
def sp_is_name : Sp := fun vs H Q _ => ∃ m : List Nat, vs = [.str (tx m)] ∧ Nm m ∧ ∀ H', Same H H' → Q (.bl true) H'
theorem fit_tx {m : List Nat} (h : m.length ≤ 1000) : (tx m).length ≤ sizeLine := by
  rw [tx_len]
  exact Nat.le_of_lt (small1000 h)
theorem ok_is_name {f : Addr} {fd : FuncData} {k : Nat} (B : Blt mg) (D : Def P w K mg base CX0 k "are_letters" s_are_letters ["thing"] sp_are_letters) (F : Fun K "is_name" "is_name" s_is_name f fd) : FnOk P w K mg base CX0 (k + 1) f fd ["thing"] sp_is_name := by
  obtain ⟨f1, fd1, F1, b1, g1, G1⟩ := D.ex
  refine F.ok sc_is_name (fun vs H Q E h => ?_) (fun cdv A outer s H vs Q E hr h => ?_)
  · obtain ⟨i, rfl, _⟩ := h
    rfl
  · obtain ⟨m, rfl, n, q⟩ := h
    refine ⟨_, pss_one (ps_ret (pe_and (pe_call G1 hr rfl g1 F1.kp b1 .nil pass0 (pa_cons (pv 0) pa_nil)) (pe_one (pe_chain op_le op_le pe_int (pe_callB call_len (by rfl) B.len PySem.boot_len (pa_cons (pv 0) pa_nil)) pe_int)))), ?_⟩
    have := n.lo
    have := n.hi
    refine ⟨.str (tx m), rfl, m, rfl, n.low, by omega, fun H1 sm => ⟨true, rfl, iteT ?_⟩⟩
    refine ⟨.str (tx m), rfl, .str (tx m), m.length, rfl, ⟨fit_tx (by omega), (tx_len m).symm⟩, 1, m.length, rfl, rfl, _, rfl, yesOf (decide_eq_true (by omega)) ?_⟩
    refine ⟨_, _, rfl, rfl, ?_⟩
    exact qbl (decide_eq_true (show (m.length : Int) ≤ 8 by omega)) (q H1 sm)
/-! ### are_signs -/
theorem sc_are_signs : FnScope ["thing", "at"] ["thing"] (defScope s_are_signs) := ⟨rfl, rfl, rfl, by decide +kernel, rfl, by decide +kernel, by decide +kernel⟩
def sp_are_signs : Sp := fun vs H Q _ => ∃ m : List Nat, vs = [.str (tx m)] ∧ K33.Signs m ∧ ∀ H', Same H H' → Q (.bl true) H'
theorem ok_are_signs {f : Addr} {fd : FuncData} {k : Nat} (B : Blt mg) (D : Def P w K mg base CX0 k "are_letters" s_are_letters ["thing"] sp_are_letters) (F : Fun K "are_signs" "are_signs" s_are_signs f fd) : FnOk P w K mg base CX0 (k + 1) f fd ["thing"] sp_are_signs := by
  obtain ⟨f1, fd1, F1, b1, g1, G1⟩ := D.ex
  refine F.ok sc_are_signs (fun vs H Q E h => ?_) (fun cdv A outer s H vs Q E hr h => ?_)
  · obtain ⟨i, rfl, _⟩ := h
    rfl
  · obtain ⟨m, rfl, n, q⟩ := h
    refine ⟨_, pss_cons (ps_if (PW.pt (pw_or (pt_not (pt_val (pe_call G1 hr rfl g1 F1.kp b1 .nil pass0 (pa_cons (pv 0) pa_nil)))) (pw_or1 (pt_not (pt_chain op_le op_le pe_int (pe_callB call_len (by rfl) B.len PySem.boot_len (pa_cons (pv 0) pa_nil)) pe_int))))) (pss_one (ps_ret pe_bl)) pss_nil)
      (pss_one (ps_ret (pe_callB (cr_all rfl) (by rfl) B.all (by decide +kernel) (pa_cons (pe_lc (own := [("at", 1)]) (g := gName 1) (tt := tYes) rfl sc_are_signs.nd (pi_range2 (by rfl) B.rng (pa_cons pe_int (pa_cons (pe_callB call_len (by rfl) B.len PySem.boot_len (pa_cons (pv 0) pa_nil)) pa_nil)))
        (blkOk_by (own := [("at", 1)]) (N := ["thing", "at"]) (sc := defScope s_are_signs) (by decide +kernel)) (fun _ _ _ _ _ => pg_name (i := 1) sc_are_signs.nd rfl (Or.inl rfl)) (fun _ _ _ _ _ => pts_nil)
        (fun _ _ _ _ _ => pe_cmpR op_lt_str (pe_ix ix_str (pv 0) (pe_op op_sub (pv 1) pe_int) (fun _ _ => rfl)) (pe_ix ix_str (pv 0) (pv 1) (fun _ _ => rfl)) (nomark _))) pa_nil)))), ?_⟩
    have lo := n.lo
    have hi := n.hi
    have fit : (tx m).length ≤ sizeLine := fit_tx (by omega)
    refine ⟨.str (tx m), rfl, m, rfl, n.small, by omega, fun H1 sm => ⟨true, rfl, noOf rfl ?_⟩⟩
    refine ⟨.str (tx m), rfl, .str (tx m), m.length, rfl, ⟨fit, (tx_len m).symm⟩, 2, m.length, rfl, rfl, _, rfl, yesOf (decide_eq_true (by omega)) ?_⟩
    refine ⟨_, _, rfl, rfl, _, rfl, ?_⟩
    refine noOf (by rw [decide_eq_true (show (m.length : Int) ≤ 4 by omega)]; rfl) ?_
    refine ⟨.str (tx m), rfl, .str (tx m), m.length, rfl, ⟨fit, (tx_len m).symm⟩, 1, m.length, rfl, ⟨by decide, by decide, by omega, by omega⟩, fun D nD => ?_⟩
    have tn : ((m.length : Int) - 1).toNat = m.length - 1 := by omega
    rw [tn]
    refine lc_true (H := H1) (walk_range (lo := 1) (n := m.length - 1)) (fun _ _ => trivial) (by omega) nD ?_ ?_ mono_name
    · rintro i x H2 H3 Qy hi2 sm2 ⟨rfl, rfl⟩ qy
      have l0 : i < m.length := by omega
      have l1 : 1 + i < m.length := by omega
      refine ⟨rfl, .str (tx m), rfl, .int (1 + (i : Int)), rfl, _, 1, rfl, rfl, tx m, _, m[i], rfl, rfl, fit, ?_, .str (tx m), rfl, .int (1 + (i : Int)), rfl, tx m, _, m[1 + i], rfl, rfl, fit, ?_, _, _, rfl, rfl, ?_⟩
      · rw [tx_list, show (1 + (i : Int) - 1) = (i : Int) by omega]
        exact atI_nat (List.getElem?_eq_getElem l0)
      · rw [tx_list, show (1 + (i : Int)) = ((1 + i : Nat) : Int) by omega]
        exact atI_nat (List.getElem?_eq_getElem l1)
      · have lt : m[i] < m[1 + i] := List.pairwise_iff_getElem.mp n.up i (1 + i) l0 l1 (by omega)
        have e : decide ((⟨#[m[i]]⟩ : Str).cps.toList < (⟨#[m[1 + i]]⟩ : Str).cps.toList) = true := decide_eq_true (List.Lex.rel lt)
        exact qbl e (qy _ (Same.refl _))
    · intro H2 sm2 hD
      refine ⟨D, _, rfl, SqL.of hD, ?_⟩
      rw [all_true]
      exact q H2 (sm.trans sm2)
/-! ### is_place -/
theorem sc_is_place : FnScope ["thing"] ["thing"] (defScope s_is_place) := ⟨rfl, rfl, rfl, by decide +kernel, rfl, by decide +kernel, by decide +kernel⟩
def sp_is_place : Sp := fun vs H Q _ => ∃ (t : Addr) (m : List Nat) (n : Nat), vs = [.ref t] ∧ H t = some (.tup [.str (tx m), .int n]) ∧ Nm m ∧ ∀ H', Same H H' → Q (.bl true) H'
theorem ok_is_place {f : Addr} {fd : FuncData} {k : Nat} (B : Blt mg) (D : Def P w K mg base CX0 k "is_name" s_is_name ["thing"] sp_is_name) (D2 : Def P w K mg base CX0 k "is_whole" s_is_whole ["thing"] sp_is_whole)
    (F : Fun K "is_place" "is_place" s_is_place f fd) : FnOk P w K mg base CX0 (k + 1) f fd ["thing"] sp_is_place := by
  obtain ⟨f1, fd1, F1, b1, g1, G1⟩ := D.ex
  obtain ⟨f2, fd2, F2, b2, g2, G2⟩ := D2.ex
  refine F.ok sc_is_place (fun vs H Q E h => ?_) (fun cdv A outer s H vs Q E hr h => ?_)
  · obtain ⟨t, m, n, rfl, _⟩ := h
    rfl
  · obtain ⟨t, m, n, rfl, ht, nm, q⟩ := h
    refine ⟨_, pss_cons (ps_if (PW.pt (pw_or (pt_not (pt_val (pe_callB call_isi (by rfl) B.isi (by decide +kernel) (pa_cons (pv 0) (pa_cons (pe_bltn (u := .type "tuple") (v := .ty "tuple") (by rfl) B.tuple (by decide +kernel) (by rfl)) pa_nil)))))
        (pw_or1 (pt_cmpR op_ne (pe_callB call_len (by rfl) B.len PySem.boot_len (pa_cons (pv 0) pa_nil)) pe_int (nomark _))))) (pss_one (ps_ret pe_bl)) pss_nil)
      (pss_one (ps_ret (pe_and (pe_call G1 hr rfl g1 F1.kp b1 .nil pass0 (pa_cons (pe_ix ix_tup (pv 0) pe_int (fun _ _ => rfl)) pa_nil))
        (pe_and (pe_call G2 hr rfl g2 F2.kp b2 .nil pass0 (pa_cons (pe_ix ix_tup (pv 0) pe_int (fun _ _ => rfl)) pa_nil)) (pe_one (pe_cmpR op_ge (pe_ix ix_tup (pv 0) pe_int (fun _ _ => rfl)) pe_int (nomark _))))))), ?_⟩
    refine ⟨.ref t, rfl, .ref t, .ty "tuple", .type "tuple", .type "tuple", true, rfl, .ty _, .base (.tup ht), kit_ty (by decide +kernel), true, rfl, noOf rfl ?_⟩
    refine ⟨.ref t, rfl, .ref t, 2, rfl, .inr ⟨_, SqT.of ht, rfl⟩, rfl, _, rfl, noOf (by decide) ?_⟩
    refine ⟨.ref t, rfl, t, _, 0, _, rfl, rfl, SqT.of ht, atI_nat (j := 0) rfl, m, rfl, nm, fun H1 sm => ⟨true, rfl, iteT ?_⟩⟩
    have ht1 := sm _ _ ht
    refine ⟨.ref t, rfl, t, _, 1, _, rfl, rfl, SqT.of ht1, atI_nat (j := 1) rfl, n, rfl, true, rfl, iteT ?_⟩
    refine ⟨.ref t, rfl, t, _, 1, _, rfl, rfl, SqT.of ht1, atI_nat (j := 1) rfl, n, 0, rfl, rfl, ?_⟩
    exact qbl (decide_eq_true (show (0 : Int) ≤ (n : Int) by omega)) (q H1 sm)
/-! ### is_pace -/
theorem sc_is_pace : FnScope ["thing"] ["thing"] (defScope s_is_pace) := ⟨rfl, rfl, rfl, by decide +kernel, rfl, by decide +kernel, by decide +kernel⟩
def sp_is_pace : Sp := fun vs H Q _ => ∃ i : Int, vs = [.int i] ∧ -(10 ^ 12) ≤ i ∧ i ≤ 10 ^ 12 ∧ Q (.bl true) H
theorem ok_is_pace {f : Addr} {fd : FuncData} {k : Nat} (B : Blt mg) (D : Def P w K mg base CX0 k "is_within" s_is_within ["thing", "least", "most"] sp_is_within) (F : Fun K "is_pace" "is_pace" s_is_pace f fd) : FnOk P w K mg base CX0 (k + 1) f fd ["thing"] sp_is_pace := by
  obtain ⟨f1, fd1, F1, b1, g1, G1⟩ := D.ex
  obtain ⟨tk, gl⟩ := B.fastest
  refine F.ok sc_is_pace (fun vs H Q E h => ?_) (fun cdv A outer s H vs Q E hr h => ?_)
  · obtain ⟨i, rfl, _⟩ := h
    rfl
  · obtain ⟨i, rfl, h1, h2, q⟩ := h
    refine ⟨_, pss_one (ps_ret (pe_call G1 hr rfl g1 F1.kp b1 .nil pass0 (pa_cons (pv 0) (pa_cons (pe_un un_neg (pe_glob (v := .int (10 ^ 12)) (by rfl) gl ⟨_, rfl⟩)) (pa_cons (pe_glob (v := .int (10 ^ 12)) (by rfl) gl ⟨_, rfl⟩) pa_nil))))), ?_⟩
    exact ⟨.int i, rfl, 10 ^ 12, rfl, i, -(10 ^ 12), 10 ^ 12, rfl, qbl (decide_eq_true ⟨h1, h2⟩) q⟩
/-! ### is_long, is_side_number -/
def sp_is_long : Sp := fun vs H Q _ => ∃ i : Int, vs = [.int i] ∧ 1 ≤ i ∧ i ≤ 12 ∧ Q (.bl true) H
theorem ok_is_long {f : Addr} {fd : FuncData} {k : Nat} (gl : ∃ t, mg "_LONGEST_BAND" = some (.int 12 t)) (D : Def P w K mg base CX0 k "is_within" s_is_within ["thing", "least", "most"] sp_is_within) (F : Fun K "is_long" "is_long" s_is_long f fd) : FnOk P w K mg base CX0 (k + 1) f fd ["thing"] sp_is_long := by
  obtain ⟨f1, fd1, F1, b1, g1, G1⟩ := D.ex
  obtain ⟨tk, gl⟩ := gl
  refine F.ok (N := ["thing"]) ⟨rfl, rfl, rfl, by decide +kernel, rfl, by decide +kernel, by decide +kernel⟩ (fun vs H Q E h => ?_) (fun cdv A outer s H vs Q E hr h => ?_)
  · obtain ⟨i, rfl, _⟩ := h
    rfl
  · obtain ⟨i, rfl, h1, h2, q⟩ := h
    refine ⟨_, pss_one (ps_ret (pe_call G1 hr rfl g1 F1.kp b1 .nil pass0 (pa_cons (pv 0) (pa_cons pe_int (pa_cons (pe_glob (v := .int 12) (by rfl) gl ⟨_, rfl⟩) pa_nil))))), ?_⟩
    exact ⟨.int i, rfl, i, 1, 12, rfl, qbl (decide_eq_true ⟨h1, h2⟩) q⟩
def sp_is_side_number : Sp := fun vs H Q _ => ∃ i : Int, vs = [.int i] ∧ 0 ≤ i ∧ i < 12 ∧ Q (.bl true) H
theorem ok_is_side_number {f : Addr} {fd : FuncData} {k : Nat} (gl : ∃ t, mg "_LONGEST_BAND" = some (.int 12 t)) (D : Def P w K mg base CX0 k "is_within" s_is_within ["thing", "least", "most"] sp_is_within) (F : Fun K "is_side_number" "is_side_number" s_is_side_number f fd) : FnOk P w K mg base CX0 (k + 1) f fd ["thing"] sp_is_side_number := by
  obtain ⟨f1, fd1, F1, b1, g1, G1⟩ := D.ex
  obtain ⟨tk, gl⟩ := gl
  refine F.ok (N := ["thing"]) ⟨rfl, rfl, rfl, by decide +kernel, rfl, by decide +kernel, by decide +kernel⟩ (fun vs H Q E h => ?_) (fun cdv A outer s H vs Q E hr h => ?_)
  · obtain ⟨i, rfl, _⟩ := h
    rfl
  · obtain ⟨i, rfl, h1, h2, q⟩ := h
    refine ⟨_, pss_one (ps_ret (pe_call G1 hr rfl g1 F1.kp b1 .nil pass0 (pa_cons (pv 0) (pa_cons pe_int (pa_cons (pe_op op_sub (pe_glob (v := .int 12) (by rfl) gl ⟨_, rfl⟩) pe_int) pa_nil))))), ?_⟩
    exact ⟨.int i, rfl, 12, 1, rfl, rfl, i, 0, _, rfl, qbl (decide_eq_true ⟨h1, by omega⟩) q⟩
end
end K05
set_option Elab.async false
set_option linter.all false
set_option maxRecDepth 100000
set_option maxHeartbeats 1000000
/-! Bands. -/
namespace K05
open PySem PySem.Spec PyProof.Rows L2 Bp
structure BandL where
  name : List Nat
  long : Nat
  pace : Int
structure BandL.Ok (b : BandL) : Prop where
  nm : Nm b.name
  lo : 1 ≤ b.long
  hi : b.long ≤ 12
  p1 : -(10 ^ 12) ≤ b.pace
  p2 : b.pace ≤ 10 ^ 12
def bandF (b : BandL) : List (Str × V) := [("_name", .str (tx b.name)), ("_long", .int b.long), ("_pace", .int b.pace)]
theorem k_nl : ¬ (("_name" : Str) = "_long") := by decide +kernel
theorem k_np : ¬ (("_name" : Str) = "_pace") := by decide +kernel
theorem k_lp : ¬ (("_long" : Str) = "_pace") := by decide +kernel
theorem bandF_put (b : BandL) : putF "_pace" (.int b.pace) (putF "_long" (.int b.long) (putF "_name" (.str (tx b.name)) [])) = bandF b := by
  show putF "_pace" (V.int b.pace) (if ("_name" : Str) = "_long" then _ else (("_name" : Str), V.str (tx b.name)) :: putF "_long" (.int b.long) []) = _
  rw [if_neg k_nl]
  show (if ("_name" : Str) = "_pace" then _ else (("_name" : Str), V.str (tx b.name)) :: (if ("_long" : Str) = "_pace" then _ else (("_long" : Str), V.int b.long) :: putF "_pace" (.int b.pace) [])) = _
  rw [if_neg k_np, if_neg k_lp]
  rfl
/-- a band stands at p -/
def IsBand (C : Addr) (H : Hp) (p : Addr) (b : BandL) : Prop := ∃ dx, H p = some (.ins C dx (bandF b))
theorem IsBand.kn {C : Addr} {H H' : Hp} {p : Addr} {b : BandL} (h : IsBand C H p b) (k : Kn H H') : IsBand C H' p b := by
  obtain ⟨dx, e⟩ := h
  exact ⟨dx, k _ _ (by intro xs z; cases z) e⟩
theorem lk_cons (g f : Str) (v : V) (fs : List (Str × V)) : ((f, v) :: fs).lookup g = if g = f then some v else fs.lookup g := by
  rw [List.lookup_cons]
  by_cases h : g = f
  · rw [if_pos h, h, beq_self_eq_true]
  · rw [if_neg h, beq_eq_false_iff_ne.mpr h]
theorem bandF_name (b : BandL) : (bandF b).lookup ("_name" : Str) = some (.str (tx b.name)) := by
  unfold bandF
  rw [lk_cons, if_pos rfl]
theorem bandF_long (b : BandL) : (bandF b).lookup ("_long" : Str) = some (.int b.long) := by
  unfold bandF
  rw [lk_cons, if_neg (fun e => k_nl e.symm), lk_cons, if_pos rfl]
theorem bandF_pace (b : BandL) : (bandF b).lookup ("_pace" : Str) = some (.int b.pace) := by
  unfold bandF
  rw [lk_cons, if_neg (fun e => k_np e.symm), lk_cons, if_neg (fun e => k_lp e.symm), lk_cons, if_pos rfl]
theorem bandF_no (b : BandL) {m : Str} (h1 : ¬ m = "_name") (h2 : ¬ m = "_long") (h3 : ¬ m = "_pace") : (bandF b).lookup m = none := by
  unfold bandF
  rw [lk_cons, if_neg h1, lk_cons, if_neg h2, lk_cons, if_neg h3]
  rfl
/-- what the top says of Band -/
structure BandTxt (K : PySem.W.Frag) (mg : Str → Option Value) (C : Addr) : Prop where
  cl : Cls K C
  nN : NoAttr K C "_name"
  nL : NoAttr K C "_long"
  nP : NoAttr K C "_pace"
  gC : mg "Band" = some (.ref C)
  longest : ∃ t, mg "_LONGEST_BAND" = some (.int 12 t)
section
variable {P : Program} {w : World} {K : PySem.W.Frag} {mg : Str → Option Value} {base : Heap} {C : Addr}
theorem sc_Band_init : FnScope ["self", "name", "long", "pace"] ["self", "name", "long", "pace"] (defScope s_Band_init) := ⟨rfl, rfl, rfl, by decide +kernel, rfl, by decide +kernel, by decide +kernel⟩
def sp_Band_init (C : Addr) : Sp := fun vs H Q _ => ∃ (p dx : Addr) (b : BandL), vs = [.ref p, .str (tx b.name), .int b.long, .int b.pace] ∧ b.Ok ∧ H p = some (.ins C dx []) ∧ ∀ H', H' p = some (.ins C dx (bandF b)) → (∀ c o, c ≠ p → H c = some o → H' c = some o) → Q .non H'
abbrev FD (K : PySem.W.Frag) (x qual : Str) (st : Stmt) (dvs : List V) (kws : List (Str × V)) (f : Addr) (fd : FuncData) : Prop := FunD K x qual (defArgs st) (defBody st) (defScope st) dvs kws f fd
theorem ok_Band_init {f : Addr} {fd : FuncData} {k : Nat} (T : BandTxt K mg C) (DN : Def P w K mg base CX0 k "is_name" s_is_name ["thing"] sp_is_name) (DW : Def P w K mg base CX0 k "is_long" s_is_long ["thing"] sp_is_long)
    (DP : Def P w K mg base CX0 k "is_pace" s_is_pace ["thing"] sp_is_pace) (F : FD K "__init__" "Band.__init__" s_Band_init [] [("pace", .int 0)] f fd) : FnOk P w K mg base CX0 (k + 1) f fd ["self", "name", "long", "pace"] (sp_Band_init C) := by
  obtain ⟨f1, fd1, F1, b1, g1, G1⟩ := DN.ex
  obtain ⟨f2, fd2, F2, b2, g2, G2⟩ := DW.ex
  obtain ⟨f3, fd3, F3, b3, g3, G3⟩ := DP.ex
  refine F.ok sc_Band_init (fun vs H Q E h => ?_) (fun cdv A outer s H vs Q E hr h => ?_)
  · obtain ⟨p, dx, b, rfl, _⟩ := h
    rfl
  · obtain ⟨p, dx, b, rfl, ok, hp, q⟩ := h
    refine ⟨_, pss_cons (ps_if (pt_not (pt_val (pe_call G1 hr rfl g1 F1.kp b1 .nil pass0 (pa_cons (pv 1) pa_nil)))) (pss_one ps_never) pss_nil)
      (pss_cons (ps_if (pt_not (pt_val (pe_call G2 hr rfl g2 F2.kp b2 .nil pass0 (pa_cons (pv 2) pa_nil)))) (pss_one ps_never) pss_nil)
      (pss_cons (ps_if (pt_not (pt_val (pe_call G3 hr rfl g3 F3.kp b3 .nil pass0 (pa_cons (pv 3) pa_nil)))) (pss_one ps_never) pss_nil)
      (pss_cons (ps_fld (pv 0) (pv 1) rfl) (pss_cons (ps_fld (pv 0) (pv 2) rfl) (pss_one (ps_fld (pv 0) (pv 3) rfl)))))), ?_⟩
    have lo := ok.lo
    have hi := ok.hi
    refine ⟨.str (tx b.name), rfl, b.name, rfl, ok.nm, fun H1 sm => ⟨true, rfl, noOf rfl ?_⟩⟩
    refine ⟨.int b.long, rfl, b.long, rfl, by omega, by omega, true, rfl, noOf rfl ?_⟩
    refine ⟨.int b.pace, rfl, b.pace, rfl, ok.p1, ok.p2, true, rfl, noOf rfl ?_⟩
    have h1 := sm _ _ hp
    refine ⟨.str (tx b.name), rfl, .ref p, rfl, p, C, dx, _, rfl, h1, T.cl, T.nN, (by show 0 < 1000; decide), ?_⟩
    refine ⟨.int b.long, rfl, .ref p, rfl, p, C, dx, _, rfl, upd_same, T.cl, T.nL, (by show 1 < 1000; decide), ?_⟩
    refine ⟨.int b.pace, rfl, .ref p, rfl, p, C, dx, _, rfl, upd_same, T.cl, T.nP, ?_, ?_⟩
    · show (if ("_name" : Str) = "_long" then _ else (("_name" : Str), V.str (tx b.name)) :: putF "_long" (.int b.long) []).length < 1000
      rw [if_neg k_nl]
      show 2 < 1000
      decide
    · refine q _ (by rw [upd_same]; exact congrArg (fun l => some (HO.ins C dx l)) (bandF_put b)) fun c o ne e => ?_
      rw [upd_ne ne, upd_ne ne, upd_ne ne]
      exact sm _ _ e
/-! ### what it tells -/
theorem sc_Band_called : FnScope ["self"] ["self"] (defScope s_Band_called) := ⟨rfl, rfl, rfl, by decide +kernel, rfl, by decide +kernel, by decide +kernel⟩
def sp_Band_called (C : Addr) : Sp := fun vs H Q _ => ∃ (p : Addr) (b : BandL), vs = [.ref p] ∧ IsBand C H p b ∧ Q (.str (tx b.name)) H
def sp_Band_long (C : Addr) : Sp := fun vs H Q _ => ∃ (p : Addr) (b : BandL), vs = [.ref p] ∧ IsBand C H p b ∧ Q (.int b.long) H
def sp_Band_pace (C : Addr) : Sp := fun vs H Q _ => ∃ (p : Addr) (b : BandL), vs = [.ref p] ∧ IsBand C H p b ∧ Q (.int b.pace) H
theorem ok_Band_called {f : Addr} {fd : FuncData} {k : Nat} (T : BandTxt K mg C) (F : Fun K "called" "Band.called" s_Band_called f fd) : FnOk P w K mg base CX0 (k + 1) f fd ["self"] (sp_Band_called C) := by
  refine F.ok sc_Band_called (fun vs H Q E h => ?_) (fun cdv A outer s H vs Q E hr h => ?_)
  · obtain ⟨p, b, rfl, _⟩ := h
    rfl
  · obtain ⟨p, b, rfl, ⟨dx, e⟩, q⟩ := h
    exact ⟨_, pss_one (ps_ret (pe_fld (pv 0) rfl)), .ref p, rfl, p, C, dx, _, _, rfl, e, T.cl, T.nN, bandF_name b, q⟩
theorem ok_Band_long {f : Addr} {fd : FuncData} {k : Nat} (T : BandTxt K mg C) (F : Fun K "long" "Band.long" s_Band_long f fd) : FnOk P w K mg base CX0 (k + 1) f fd ["self"] (sp_Band_long C) := by
  refine F.ok (N := ["self"]) ⟨rfl, rfl, rfl, by decide +kernel, rfl, by decide +kernel, by decide +kernel⟩ (fun vs H Q E h => ?_) (fun cdv A outer s H vs Q E hr h => ?_)
  · obtain ⟨p, b, rfl, _⟩ := h
    rfl
  · obtain ⟨p, b, rfl, ⟨dx, e⟩, q⟩ := h
    exact ⟨_, pss_one (ps_ret (pe_fld (pv 0) rfl)), .ref p, rfl, p, C, dx, _, _, rfl, e, T.cl, T.nL, bandF_long b, q⟩
theorem ok_Band_pace {f : Addr} {fd : FuncData} {k : Nat} (T : BandTxt K mg C) (F : Fun K "pace" "Band.pace" s_Band_pace f fd) : FnOk P w K mg base CX0 (k + 1) f fd ["self"] (sp_Band_pace C) := by
  refine F.ok (N := ["self"]) ⟨rfl, rfl, rfl, by decide +kernel, rfl, by decide +kernel, by decide +kernel⟩ (fun vs H Q E h => ?_) (fun cdv A outer s H vs Q E hr h => ?_)
  · obtain ⟨p, b, rfl, _⟩ := h
    rfl
  · obtain ⟨p, b, rfl, ⟨dx, e⟩, q⟩ := h
    exact ⟨_, pss_one (ps_ret (pe_fld (pv 0) rfl)), .ref p, rfl, p, C, dx, _, _, rfl, e, T.cl, T.nP, bandF_pace b, q⟩
end
end K05
set_option Elab.async false
set_option linter.all false
set_option maxRecDepth 100000
set_option maxHeartbeats 1000000
/-! Presses. -/
namespace K05
open PySem PySem.Spec PyProof.Rows L2 Bp
structure PlaceL where
  name : List Nat
  at_ : Nat
def IsPlace (H : Hp) (t : Addr) (s : PlaceL) : Prop := H t = some (.tup [.str (tx s.name), .int s.at_])
theorem IsPlace.kn {H H' : Hp} {t : Addr} {s : PlaceL} (h : IsPlace H t s) (k : Kn H H') : IsPlace H' t s := k _ _ (by intro xs z; cases z) h
/-- len in a comprehension -/
def rLen (K : PySem.W.Frag) : List V → Hp → VK → Prop := fun xs H Q => ∃ x n, xs = [x] ∧ LenV K x H n ∧ Q (.int n) H
/-- a table for n signs: n texts, n signs each -/
structure TableOk (n : Nat) (l : List (List Nat)) : Prop where
  lo : 2 ≤ n
  hi : n ≤ 4
  len : l.length = n
  each : ∀ m ∈ l, m.length = n ∧ Low m
structure RhythmOk (m : List Nat) : Prop where
  lo : 1 ≤ m.length
  hi : m.length ≤ 6
  each : ∀ c ∈ m, c = 120 ∨ c = 45
section
variable {P : Program} {w : World} {K : PySem.W.Frag} {mg : Str → Option Value} {base : Heap} {C : Addr}
/-! ### is_side -/
def sp_is_side : Sp := fun vs H Q _ => ∃ (t : Addr) (s : PlaceL), vs = [.ref t] ∧ IsPlace H t s ∧ Nm s.name ∧ s.at_ < 12 ∧ ∀ H', Same H H' → Q (.bl true) H'
theorem ok_is_side {f : Addr} {fd : FuncData} {k : Nat} (DN : Def P w K mg base CX0 k "is_side_number" s_is_side_number ["thing"] sp_is_side_number) (D : Def P w K mg base CX0 k "is_place" s_is_place ["thing"] sp_is_place) (F : Fun K "is_side" "is_side" s_is_side f fd) : FnOk P w K mg base CX0 (k + 1) f fd ["thing"] sp_is_side := by
  obtain ⟨f1, fd1, F1, b1, g1, G1⟩ := D.ex
  obtain ⟨f2, fd2, F2, b2, g2, G2⟩ := DN.ex
  refine F.ok (N := ["thing"]) ⟨rfl, rfl, rfl, by decide +kernel, rfl, by decide +kernel, by decide +kernel⟩ (fun vs H Q E h => ?_) (fun cdv A outer s H vs Q E hr h => ?_)
  · obtain ⟨i, s, rfl, _⟩ := h
    rfl
  · obtain ⟨t, s, rfl, ht, nm, lt, q⟩ := h
    refine ⟨_, pss_one (ps_ret (pe_and (pe_call G1 hr rfl g1 F1.kp b1 .nil pass0 (pa_cons (pv 0) pa_nil)) (pe_one (pe_call G2 hr rfl g2 F2.kp b2 .nil pass0 (pa_cons (pe_ix ix_tup (pv 0) pe_int (fun _ _ => rfl)) pa_nil))))), ?_⟩
    refine ⟨.ref t, rfl, t, s.name, s.at_, rfl, ht, nm, fun H1 sm => ⟨true, rfl, iteT ?_⟩⟩
    refine ⟨.ref t, rfl, t, _, 1, _, rfl, rfl, SqT.of (sm _ _ ht), atI_nat (j := 1) rfl, s.at_, rfl, by omega, by omega, ?_⟩
    exact q H1 sm
/-! ### is_table -/
theorem sc_is_table : FnScope ["thing", "text"] ["thing"] (defScope s_is_table) := ⟨rfl, rfl, rfl, by decide +kernel, rfl, by decide +kernel, by decide +kernel⟩
def sp_is_table : Sp := fun vs H Q _ => ∃ (t : Addr) (n : Nat) (l : List (List Nat)), vs = [.ref t] ∧ H t = some (.tup (txs l)) ∧ TableOk n l ∧ ∀ H', Same H H' → Q (.bl true) H'
theorem ok_is_table {f : Addr} {fd : FuncData} {k : Nat} (B : Blt mg) (D : Def P w K mg base CX0 k "are_letters" s_are_letters ["thing"] sp_are_letters) (F : Fun K "is_table" "is_table" s_is_table f fd) : FnOk P w K mg base CX0 (k + 1) f fd ["thing"] sp_is_table := by
  obtain ⟨f1, fd1, F1, b1, g1, G1⟩ := D.ex
  refine F.ok sc_is_table (fun vs H Q E h => ?_) (fun cdv A outer s H vs Q E hr h => ?_)
  · obtain ⟨t, n, l, rfl, _⟩ := h
    rfl
  · obtain ⟨t, n, l, rfl, ht, ok, q⟩ := h
    refine ⟨_, pss_cons (ps_if (PW.pt (pw_or (pt_not (pt_val (pe_callB call_isi (by rfl) B.isi (by decide +kernel) (pa_cons (pv 0) (pa_cons (pe_bltn (u := .type "tuple") (v := .ty "tuple") (by rfl) B.tuple (by decide +kernel) (by rfl)) pa_nil)))))
        (pw_or1 (pt_not (pt_chain op_le op_le pe_int (pe_callB call_len (by rfl) B.len PySem.boot_len (pa_cons (pv 0) pa_nil)) pe_int))))) (pss_one (ps_ret pe_bl)) pss_nil)
      (pss_one (ps_ret (pe_callB (cr_all rfl) (by rfl) B.all (by decide +kernel) (pa_cons (pe_lc (own := [("text", 1)]) (g := gName 1) (tt := tYes) rfl sc_is_table.nd (pi_tup (pv 0)) (blkOk_by (own := [("text", 1)]) (N := ["thing", "text"]) (sc := defScope s_is_table) (by decide +kernel))
        (fun _ _ _ _ _ => pg_name (i := 1) sc_is_table.nd rfl (Or.inl rfl)) (fun _ _ _ _ _ => pts_nil) (fun _ _ _ _ _ => pe_and (pe_call G1 hr rfl g1 F1.kp b1 .nil pass0 (pa_cons (pv 1) pa_nil))
          (pe_one (pe_cmpR op_eq (pe_callB call_len_str (by rfl) B.len PySem.boot_len (pa_cons (pv 1) pa_nil)) (pe_callB (show CallR _ (.builtin "len") (rLen K) from call_len) (by rfl) B.len PySem.boot_len (pa_cons (pv 0) pa_nil)) (nomark _))))) pa_nil)))), ?_⟩
    have lo := ok.lo
    have hi := ok.hi
    have len := ok.len
    refine ⟨.ref t, rfl, .ref t, .ty "tuple", .type "tuple", .type "tuple", true, rfl, .ty _, .base (.tup ht), kit_ty (by decide +kernel), true, rfl, noOf rfl ?_⟩
    refine ⟨.ref t, rfl, .ref t, n, rfl, .inr ⟨_, SqT.of ht, by rw [txs_len, len]⟩, 2, n, rfl, rfl, _, rfl, yesOf (decide_eq_true (by omega)) ?_⟩
    refine ⟨_, _, rfl, rfl, _, rfl, ?_⟩
    refine noOf (by rw [decide_eq_true (show (n : Int) ≤ 4 by omega)]; rfl) ?_
    refine ⟨.ref t, rfl, t, rfl, ⟨_, SqT.of ht⟩, fun D nD => ?_⟩
    refine lc_true (H := H) (walk_tup (K := K) (a := t) (xs := txs l)) (fun H1 sm => SqT.of (sm _ _ ht)) (by rw [txs_len]; omega) nD ?_ ?_ mono_name
    · rintro i x H1 H2 Qy hi2 sm ⟨rfl, hx⟩ qy
      obtain ⟨m, hm, rfl⟩ : ∃ m, m ∈ l ∧ x = .str (tx m) := by
        obtain ⟨m, hm, e⟩ := List.mem_map.mp (List.mem_of_getElem? hx)
        exact ⟨m, hm, e.symm⟩
      obtain ⟨ml, mlow⟩ := ok.each m hm
      refine ⟨rfl, .str (tx m), rfl, m, rfl, mlow, by omega, fun H3 s3 => ⟨true, rfl, iteT ?_⟩⟩
      refine ⟨.str (tx m), rfl, tx m, rfl, fit_tx (by omega), .ref t, rfl, .ref t, n, rfl, .inr ⟨_, SqT.of (s3 _ _ (sm _ _ ht)), by rw [txs_len, len]⟩, rfl, ?_⟩
      exact qbl (decide_eq_true (by show V.int ((tx m).length : Nat) = V.int (n : Nat); rw [tx_len, ml])) (qy H3 s3)
    · intro H1 sm hD
      refine ⟨D, _, rfl, SqL.of hD, ?_⟩
      rw [all_true]
      exact q H1 sm
/-! ### is_rhythm -/
theorem sc_is_rhythm : FnScope ["thing", "mark"] ["thing"] (defScope s_is_rhythm) := ⟨rfl, rfl, rfl, by decide +kernel, rfl, by decide +kernel, by decide +kernel⟩
def sp_is_rhythm : Sp := fun vs H Q _ => ∃ m : List Nat, vs = [.str (tx m)] ∧ RhythmOk m ∧ ∀ H', Same H H' → Q (.bl true) H'
theorem in_marks {c : Nat} (h : c = 120 ∨ c = 45) : c ∈ ("x-" : Str).cps.toList := by
  rcases h with rfl | rfl <;> decide +kernel
theorem ok_is_rhythm {f : Addr} {fd : FuncData} {k : Nat} (B : Blt mg) (gl : ∃ t, mg "_MOST_BEATS_OF_RHYTHM" = some (.int 6 t)) (F : Fun K "is_rhythm" "is_rhythm" s_is_rhythm f fd) : FnOk P w K mg base CX0 (k + 1) f fd ["thing"] sp_is_rhythm := by
  obtain ⟨tk, gl⟩ := gl
  refine F.ok sc_is_rhythm (fun vs H Q E h => ?_) (fun cdv A outer s H vs Q E hr h => ?_)
  · obtain ⟨m, rfl, _⟩ := h
    rfl
  · obtain ⟨m, rfl, ok, q⟩ := h
    refine ⟨_, pss_cons (ps_if (PW.pt (pw_or (pt_not (pt_val (pe_callB call_isi (by rfl) B.isi (by decide +kernel) (pa_cons (pv 0) (pa_cons (pe_bltn (u := .type "str") (v := .ty "str") (by rfl) B.str (by decide +kernel) (by rfl)) pa_nil)))))
        (pw_or1 (pt_not (pt_chain op_le op_le pe_int (pe_callB call_len (by rfl) B.len PySem.boot_len (pa_cons (pv 0) pa_nil)) (pe_glob (v := .int 6) (by rfl) gl ⟨_, rfl⟩)))))) (pss_one (ps_ret pe_bl)) pss_nil)
      (pss_one (ps_ret (pe_callB (cr_all rfl) (by rfl) B.all (by decide +kernel) (pa_cons (pe_lc (own := [("mark", 1)]) (g := gName 1) (tt := tYes) rfl sc_is_rhythm.nd (pi_str (pv 0)) (blkOk_by (own := [("mark", 1)]) (N := ["thing", "mark"]) (sc := defScope s_is_rhythm) (by decide +kernel))
        (fun _ _ _ _ _ => pg_name (i := 1) sc_is_rhythm.nd rfl (Or.inl rfl)) (fun _ _ _ _ _ => pts_nil) (fun _ _ _ _ _ => pe_cmpR op_in_sign (pv 1) pe_str (by rfl))) pa_nil)))), ?_⟩
    have lo := ok.lo
    have hi := ok.hi
    refine ⟨.str (tx m), rfl, .str (tx m), .ty "str", .type "str", .type "str", true, rfl, .ty _, .base (.str _), kit_ty (by decide +kernel), true, rfl, noOf rfl ?_⟩
    refine ⟨.str (tx m), rfl, .str (tx m), m.length, rfl, ⟨fit_tx (by omega), (tx_len m).symm⟩, 1, m.length, rfl, rfl, _, rfl, yesOf (decide_eq_true (by omega)) ?_⟩
    refine ⟨_, _, rfl, rfl, _, rfl, ?_⟩
    refine noOf (by rw [decide_eq_true (show (m.length : Int) ≤ 6 by omega)]; rfl) ?_
    refine ⟨.str (tx m), rfl, tx m, rfl, fun D nD => ?_⟩
    refine lc_true (H := H) (walk_str (z := tx m)) (fun _ _ => trivial) (by rw [show (tx m).cps.size = m.length from tx_len m]; omega) nD ?_ ?_ mono_name
    · rintro i x H1 H2 Qy hi sm ⟨rfl, c, hc, rfl⟩ qy
      have hc' : m[i]? = some c := by rw [← tx_list m, Array.getElem?_toList]; exact hc
      refine ⟨rfl, .str (tx [c]), rfl, c, "x-", rfl, rfl, ?_⟩
      exact qbl (decide_eq_true (in_marks (ok.each c (List.mem_of_getElem? hc')))) (qy _ (Same.refl _))
    · intro H1 sm hD
      refine ⟨D, _, rfl, SqL.of hD, ?_⟩
      rw [all_true]
      exact q H1 sm
end
end K05
set_option Elab.async false
set_option linter.all false
set_option maxRecDepth 100000
set_option maxHeartbeats 1000000
/-! Presses, the class. -/
namespace K05
open PySem PySem.Spec PyProof.Rows L2 Bp
structure PressL where
  above : PlaceL
  below : PlaceL
  table : List (List Nat)
  rhythm : List Nat
structure PressL.Ok (n : Nat) (r : PressL) : Prop where
  a1 : Nm r.above.name
  a2 : r.above.at_ < 12
  b1 : Nm r.below.name
  b2 : r.below.at_ < 12
  tb : TableOk n r.table
  rh : RhythmOk r.rhythm
def pressF (a b t : Addr) (m : List Nat) : List (Str × V) := [("_above", .ref a), ("_below", .ref b), ("_table", .ref t), ("_rhythm", .str (tx m))]
theorem k_ab : ¬ (("_above" : Str) = "_below") := by decide +kernel
theorem k_at : ¬ (("_above" : Str) = "_table") := by decide +kernel
theorem k_ar : ¬ (("_above" : Str) = "_rhythm") := by decide +kernel
theorem k_bt : ¬ (("_below" : Str) = "_table") := by decide +kernel
theorem k_br : ¬ (("_below" : Str) = "_rhythm") := by decide +kernel
theorem k_tr : ¬ (("_table" : Str) = "_rhythm") := by decide +kernel
theorem putF_cons (f g : Str) (v u : V) (fs : List (Str × V)) : putF f v ((g, u) :: fs) = if g = f then (g, v) :: fs else (g, u) :: putF f v fs := rfl
theorem putF_nil (f : Str) (v : V) : putF f v [] = [(f, v)] := rfl
theorem pressF_put (a b t : Addr) (m : List Nat) : putF "_rhythm" (.str (tx m)) (putF "_table" (.ref t) (putF "_below" (.ref b) (putF "_above" (.ref a) []))) = pressF a b t m := by
  have e1 : putF "_below" (.ref b) (putF "_above" (.ref a) []) = ([("_above", .ref a), ("_below", .ref b)] : List (Str × V)) := by
    show putF "_below" (V.ref b) [(("_above" : Str), V.ref a)] = _
    rw [putF_cons, if_neg k_ab]
    rfl
  have e2 : putF "_table" (.ref t) ([("_above", .ref a), ("_below", .ref b)] : List (Str × V)) = ([("_above", .ref a), ("_below", .ref b), ("_table", .ref t)] : List (Str × V)) := by
    rw [putF_cons, if_neg k_at, putF_cons, if_neg k_bt]
    rfl
  rw [e1, e2, putF_cons, if_neg k_ar, putF_cons, if_neg k_br, putF_cons, if_neg k_tr]
  rfl
theorem putF_few (f : Str) (v : V) : ∀ fs : List (Str × V), (putF f v fs).length ≤ fs.length + 1
  | [] => Nat.le_refl _
  | (g, u) :: fs => by
    rw [putF_cons]
    split
    · rw [List.length_cons, List.length_cons]
      omega
    · rw [List.length_cons, List.length_cons]
      have := putF_few f v fs
      omega
theorem pressF_above (a b t : Addr) (m : List Nat) : (pressF a b t m).lookup ("_above" : Str) = some (.ref a) := by
  unfold pressF
  rw [lk_cons, if_pos rfl]
theorem pressF_below (a b t : Addr) (m : List Nat) : (pressF a b t m).lookup ("_below" : Str) = some (.ref b) := by
  unfold pressF
  rw [lk_cons, if_neg (fun e => k_ab e.symm), lk_cons, if_pos rfl]
theorem pressF_table (a b t : Addr) (m : List Nat) : (pressF a b t m).lookup ("_table" : Str) = some (.ref t) := by
  unfold pressF
  rw [lk_cons, if_neg (fun e => k_at e.symm), lk_cons, if_neg (fun e => k_bt e.symm), lk_cons, if_pos rfl]
theorem pressF_rhythm (a b t : Addr) (m : List Nat) : (pressF a b t m).lookup ("_rhythm" : Str) = some (.str (tx m)) := by
  unfold pressF
  rw [lk_cons, if_neg (fun e => k_ar e.symm), lk_cons, if_neg (fun e => k_br e.symm), lk_cons, if_neg (fun e => k_tr e.symm), lk_cons, if_pos rfl]
theorem pressF_no (a b t : Addr) (n : List Nat) {m : Str} (h1 : ¬ m = "_above") (h2 : ¬ m = "_below") (h3 : ¬ m = "_table") (h4 : ¬ m = "_rhythm") : (pressF a b t n).lookup m = none := by
  unfold pressF
  rw [lk_cons, if_neg h1, lk_cons, if_neg h2, lk_cons, if_neg h3, lk_cons, if_neg h4]
  rfl
/-- what a press's fields hold -/
structure PressAt (H : Hp) (a b t : Addr) (r : PressL) : Prop where
  ab : IsPlace H a r.above
  be : IsPlace H b r.below
  tb : H t = some (.tup (txs r.table))
theorem PressAt.kn {H H' : Hp} {a b t : Addr} {r : PressL} (h : PressAt H a b t r) (k : Kn H H') : PressAt H' a b t r := ⟨h.ab.kn k, h.be.kn k, k _ _ (by intro xs z; cases z) h.tb⟩
/-- a press stands at p -/
def IsPress (C : Addr) (H : Hp) (p : Addr) (r : PressL) : Prop := ∃ dx a b t, H p = some (.ins C dx (pressF a b t r.rhythm)) ∧ PressAt H a b t r
theorem IsPress.kn {C : Addr} {H H' : Hp} {p : Addr} {r : PressL} (h : IsPress C H p r) (k : Kn H H') : IsPress C H' p r := by
  obtain ⟨dx, a, b, t, e, z⟩ := h
  exact ⟨dx, a, b, t, k _ _ (by intro xs z; cases z) e, z.kn k⟩
/-- what the top says of Press -/
structure PressTxt (K : PySem.W.Frag) (mg : Str → Option Value) (C : Addr) : Prop where
  cl : Cls K C
  nA : NoAttr K C "_above"
  nB : NoAttr K C "_below"
  nT : NoAttr K C "_table"
  nR : NoAttr K C "_rhythm"
  gC : mg "Press" = some (.ref C)
section
variable {P : Program} {w : World} {K : PySem.W.Frag} {mg : Str → Option Value} {base : Heap} {C : Addr}
theorem sc_Press_init : FnScope ["self", "above", "below", "table", "rhythm"] ["self", "above", "below", "table", "rhythm"] (defScope s_Press_init) := ⟨rfl, rfl, rfl, by decide +kernel, rfl, by decide +kernel, by decide +kernel⟩
def sp_Press_init (C : Addr) : Sp := fun vs H Q _ => ∃ (p dx a b t : Addr) (n : Nat) (r : PressL), vs = [.ref p, .ref a, .ref b, .ref t, .str (tx r.rhythm)] ∧ r.Ok n ∧ PressAt H a b t r ∧ H p = some (.ins C dx []) ∧
  ∀ H', H' p = some (.ins C dx (pressF a b t r.rhythm)) → (∀ c o, c ≠ p → H c = some o → H' c = some o) → Q .non H'
theorem ok_Press_init {f : Addr} {fd : FuncData} {k : Nat} (T : PressTxt K mg C) (DS : Def P w K mg base CX0 k "is_side" s_is_side ["thing"] sp_is_side) (DT : Def P w K mg base CX0 k "is_table" s_is_table ["thing"] sp_is_table)
    (DR : Def P w K mg base CX0 k "is_rhythm" s_is_rhythm ["thing"] sp_is_rhythm) (F : FD K "__init__" "Press.__init__" s_Press_init [] [("rhythm", .str "x")] f fd) : FnOk P w K mg base CX0 (k + 1) f fd ["self", "above", "below", "table", "rhythm"] (sp_Press_init C) := by
  obtain ⟨f1, fd1, F1, b1, g1, G1⟩ := DS.ex
  obtain ⟨f2, fd2, F2, b2, g2, G2⟩ := DT.ex
  obtain ⟨f3, fd3, F3, b3, g3, G3⟩ := DR.ex
  refine F.ok sc_Press_init (fun vs H Q E h => ?_) (fun cdv A outer s H vs Q E hr h => ?_)
  · obtain ⟨p, dx, a, b, t, n, r, rfl, _⟩ := h
    rfl
  · obtain ⟨p, dx, a, b, t, n, r, rfl, ok, pa, hp, q⟩ := h
    refine ⟨_, pss_cons (ps_if (pt_not (pt_val (pe_call G1 hr rfl g1 F1.kp b1 .nil pass0 (pa_cons (pv 1) pa_nil)))) (pss_one ps_never) pss_nil)
      (pss_cons (ps_if (pt_not (pt_val (pe_call G1 hr rfl g1 F1.kp b1 .nil pass0 (pa_cons (pv 2) pa_nil)))) (pss_one ps_never) pss_nil)
      (pss_cons (ps_if (pt_not (pt_val (pe_call G2 hr rfl g2 F2.kp b2 .nil pass0 (pa_cons (pv 3) pa_nil)))) (pss_one ps_never) pss_nil)
      (pss_cons (ps_if (pt_not (pt_val (pe_call G3 hr rfl g3 F3.kp b3 .nil pass0 (pa_cons (pv 4) pa_nil)))) (pss_one ps_never) pss_nil)
      (pss_cons (ps_fld (pv 0) (pv 1) rfl) (pss_cons (ps_fld (pv 0) (pv 2) rfl) (pss_cons (ps_fld (pv 0) (pv 3) rfl) (pss_one (ps_fld (pv 0) (pv 4) rfl)))))))), ?_⟩
    refine ⟨.ref a, rfl, a, r.above, rfl, pa.ab, ok.a1, ok.a2, fun H1 s1 => ⟨true, rfl, noOf rfl ?_⟩⟩
    have pa1 := pa.kn (Kn.of s1)
    refine ⟨.ref b, rfl, b, r.below, rfl, pa1.be, ok.b1, ok.b2, fun H2 s2 => ⟨true, rfl, noOf rfl ?_⟩⟩
    have pa2 := pa1.kn (Kn.of s2)
    refine ⟨.ref t, rfl, t, n, r.table, rfl, pa2.tb, ok.tb, fun H3 s3 => ⟨true, rfl, noOf rfl ?_⟩⟩
    refine ⟨.str (tx r.rhythm), rfl, r.rhythm, rfl, ok.rh, fun H4 s4 => ⟨true, rfl, noOf rfl ?_⟩⟩
    have sm := ((s1.trans s2).trans s3).trans s4
    have h1 := sm _ _ hp
    refine ⟨.ref a, rfl, .ref p, rfl, p, C, dx, _, rfl, h1, T.cl, T.nA, (by show 0 < 1000; decide), ?_⟩
    refine ⟨.ref b, rfl, .ref p, rfl, p, C, dx, _, rfl, upd_same, T.cl, T.nB, (by show 1 < 1000; decide), ?_⟩
    refine ⟨.ref t, rfl, .ref p, rfl, p, C, dx, _, rfl, upd_same, T.cl, T.nT, ?_, ?_⟩
    · have e1 := putF_few "_below" (.ref b) (putF "_above" (.ref a) [])
      have e2 : (putF "_above" (.ref a) []).length = 1 := rfl
      omega
    · refine ⟨.str (tx r.rhythm), rfl, .ref p, rfl, p, C, dx, _, rfl, upd_same, T.cl, T.nR, ?_, ?_⟩
      · have e0 := putF_few "_table" (.ref t) (putF "_below" (.ref b) (putF "_above" (.ref a) []))
        have e1 := putF_few "_below" (.ref b) (putF "_above" (.ref a) [])
        have e2 : (putF "_above" (.ref a) []).length = 1 := rfl
        omega
      · refine q _ (by rw [upd_same]; exact congrArg (fun l => some (HO.ins C dx l)) (pressF_put a b t r.rhythm)) fun c o ne e => ?_
        rw [upd_ne ne, upd_ne ne, upd_ne ne, upd_ne ne]
        exact sm _ _ e
/-! ### what it tells -/
def sp_Press_above (C : Addr) : Sp := fun vs H Q _ => ∃ (p : Addr) (r : PressL), vs = [.ref p] ∧ IsPress C H p r ∧ ∀ a, IsPlace H a r.above → Q (.ref a) H
def sp_Press_below (C : Addr) : Sp := fun vs H Q _ => ∃ (p : Addr) (r : PressL), vs = [.ref p] ∧ IsPress C H p r ∧ ∀ a, IsPlace H a r.below → Q (.ref a) H
def sp_Press_table (C : Addr) : Sp := fun vs H Q _ => ∃ (p : Addr) (r : PressL), vs = [.ref p] ∧ IsPress C H p r ∧ ∀ a, H a = some (.tup (txs r.table)) → Q (.ref a) H
def sp_Press_rhythm (C : Addr) : Sp := fun vs H Q _ => ∃ (p : Addr) (r : PressL), vs = [.ref p] ∧ IsPress C H p r ∧ Q (.str (tx r.rhythm)) H
theorem ok_Press_above {f : Addr} {fd : FuncData} {k : Nat} (T : PressTxt K mg C) (F : Fun K "above" "Press.above" s_Press_above f fd) : FnOk P w K mg base CX0 (k + 1) f fd ["self"] (sp_Press_above C) := by
  refine F.ok (N := ["self"]) ⟨rfl, rfl, rfl, by decide +kernel, rfl, by decide +kernel, by decide +kernel⟩ (fun vs H Q E h => ?_) (fun cdv A outer s H vs Q E hr h => ?_)
  · obtain ⟨p, r, rfl, _⟩ := h
    rfl
  · obtain ⟨p, r, rfl, ⟨dx, a, b, t, e, z⟩, q⟩ := h
    exact ⟨_, pss_one (ps_ret (pe_fld (pv 0) rfl)), .ref p, rfl, p, C, dx, _, _, rfl, e, T.cl, T.nA, pressF_above a b t r.rhythm, q a z.ab⟩
theorem ok_Press_below {f : Addr} {fd : FuncData} {k : Nat} (T : PressTxt K mg C) (F : Fun K "below" "Press.below" s_Press_below f fd) : FnOk P w K mg base CX0 (k + 1) f fd ["self"] (sp_Press_below C) := by
  refine F.ok (N := ["self"]) ⟨rfl, rfl, rfl, by decide +kernel, rfl, by decide +kernel, by decide +kernel⟩ (fun vs H Q E h => ?_) (fun cdv A outer s H vs Q E hr h => ?_)
  · obtain ⟨p, r, rfl, _⟩ := h
    rfl
  · obtain ⟨p, r, rfl, ⟨dx, a, b, t, e, z⟩, q⟩ := h
    exact ⟨_, pss_one (ps_ret (pe_fld (pv 0) rfl)), .ref p, rfl, p, C, dx, _, _, rfl, e, T.cl, T.nB, pressF_below a b t r.rhythm, q b z.be⟩
theorem ok_Press_table {f : Addr} {fd : FuncData} {k : Nat} (T : PressTxt K mg C) (F : Fun K "table" "Press.table" s_Press_table f fd) : FnOk P w K mg base CX0 (k + 1) f fd ["self"] (sp_Press_table C) := by
  refine F.ok (N := ["self"]) ⟨rfl, rfl, rfl, by decide +kernel, rfl, by decide +kernel, by decide +kernel⟩ (fun vs H Q E h => ?_) (fun cdv A outer s H vs Q E hr h => ?_)
  · obtain ⟨p, r, rfl, _⟩ := h
    rfl
  · obtain ⟨p, r, rfl, ⟨dx, a, b, t, e, z⟩, q⟩ := h
    exact ⟨_, pss_one (ps_ret (pe_fld (pv 0) rfl)), .ref p, rfl, p, C, dx, _, _, rfl, e, T.cl, T.nT, pressF_table a b t r.rhythm, q t z.tb⟩
theorem ok_Press_rhythm {f : Addr} {fd : FuncData} {k : Nat} (T : PressTxt K mg C) (F : Fun K "rhythm" "Press.rhythm" s_Press_rhythm f fd) : FnOk P w K mg base CX0 (k + 1) f fd ["self"] (sp_Press_rhythm C) := by
  refine F.ok (N := ["self"]) ⟨rfl, rfl, rfl, by decide +kernel, rfl, by decide +kernel, by decide +kernel⟩ (fun vs H Q E h => ?_) (fun cdv A outer s H vs Q E hr h => ?_)
  · obtain ⟨p, r, rfl, _⟩ := h
    rfl
  · obtain ⟨p, r, rfl, ⟨dx, a, b, t, e, z⟩, q⟩ := h
    exact ⟨_, pss_one (ps_ret (pe_fld (pv 0) rfl)), .ref p, rfl, p, C, dx, _, _, rfl, e, T.cl, T.nR, pressF_rhythm a b t r.rhythm, q⟩
end
end K05
set_option Elab.async false
set_option linter.all false
set_option maxRecDepth 100000
set_option maxHeartbeats 1000000
/-! Bands together. -/
namespace K05
open PySem PySem.Spec PyProof.Rows L2 Bp
/-- an instance of the class at C is one, by isinstance -/
structure IsiTxt (K : PySem.W.Frag) (C : Addr) : Prop where
  ha : PySem.W.findIn K (.ref C) "__class__" = some (some (.builtin "object.__class__"))
  hn : PySem.W.specialIn K (.builtin "object.__class__") "__get__" = some (some (.builtin "getset_descriptor.__get__"))
  htk : PySem.W.takesIn K (.builtin "object.__class__") = some true
  hm : PySem.W.mroIn K C (.type "object") = some true
  self : PySem.W.kitOne K (.ref C) (.ref C) = some true
theorem IsiTxt.ty {K : PySem.W.Frag} {C p dx : Addr} {H : Hp} {fs : List (Str × V)} (t : IsiTxt K C) (cl : Cls K C) (e : H p = some (.ins C dx fs)) : TyX K H (.ref p) (.ref C) := .base (.ins e cl t.ha t.hn t.htk t.hm)
structure BandsOk (bs : List BandL) : Prop where
  each : ∀ b ∈ bs, b.Ok
  lo : 1 ≤ bs.length
  hi : bs.length ≤ 6
  nd : (bs.map (·.name)).Nodup
  all : (bs.map (·.long)).sum ≤ 40
/-- bands stand at ps -/
def AreBands (C : Addr) (H : Hp) (ps : List Addr) (bs : List BandL) : Prop := ps.length = bs.length ∧ ∀ (i : Nat) p b, ps[i]? = some p → bs[i]? = some b → IsBand C H p b
theorem AreBands.kn {C : Addr} {H H' : Hp} {ps : List Addr} {bs : List BandL} (h : AreBands C H ps bs) (k : Kn H H') : AreBands C H' ps bs := ⟨h.1, fun i p b e1 e2 => (h.2 i p b e1 e2).kn k⟩
theorem AreBands.at_ {C : Addr} {H : Hp} {ps : List Addr} {bs : List BandL} (h : AreBands C H ps bs) {i : Nat} {x : V} (e : (ps.map V.ref)[i]? = some x) : ∃ p b, x = .ref p ∧ ps[i]? = some p ∧ bs[i]? = some b ∧ IsBand C H p b := by
  rw [List.getElem?_map] at e
  cases ep : ps[i]? with
  | none =>
    rw [ep] at e
    cases e
  | some p =>
    rw [ep] at e
    have lt : i < bs.length := by
      rw [← h.1]
      exact (List.getElem?_eq_some_iff.mp ep).1
    exact ⟨p, bs[i], (Option.some.inj e).symm, rfl, List.getElem?_eq_getElem lt, h.2 i p _ ep (List.getElem?_eq_getElem lt)⟩
/-- what Band's methods promise -/
structure BandDefs (P : Program) (w : World) (K : PySem.W.Frag) (mg : Str → Option Value) (base : Heap) (C : Addr) (k : Nat) : Prop where
  txt : BandTxt K mg C
  isi : IsiTxt K C
  called : ∃ f fd, Meth K C "called" f ∧ Binds K fd ["self"] [] ∧ FnOk P w K mg base CX0 k f fd ["self"] (sp_Band_called C)
  long : ∃ f fd, Meth K C "long" f ∧ Binds K fd ["self"] [] ∧ FnOk P w K mg base CX0 k f fd ["self"] (sp_Band_long C)
  pace : ∃ f fd, Meth K C "pace" f ∧ Binds K fd ["self"] [] ∧ FnOk P w K mg base CX0 k f fd ["self"] (sp_Band_pace C)
theorem no_called (b : BandL) : (bandF b).lookup ("called" : Str) = none := bandF_no b (by decide +kernel) (by decide +kernel) (by decide +kernel)
theorem no_long (b : BandL) : (bandF b).lookup ("long" : Str) = none := bandF_no b (by decide +kernel) (by decide +kernel) (by decide +kernel)
theorem no_pace (b : BandL) : (bandF b).lookup ("pace" : Str) = none := bandF_no b (by decide +kernel) (by decide +kernel) (by decide +kernel)
section
variable {P : Program} {w : World} {K : PySem.W.Frag} {mg : Str → Option Value} {base : Heap} {C : Addr}
theorem sc_are_bands : FnScope ["thing", "band"] ["thing"] (defScope s_are_bands) := ⟨rfl, rfl, rfl, by decide +kernel, rfl, by decide +kernel, by decide +kernel⟩
def sp_are_bands (C : Addr) : Sp := fun vs H Q _ => ∃ (l : Addr) (ps : List Addr) (bs : List BandL), vs = [.ref l] ∧ H l = some (.lst (ps.map V.ref)) ∧ AreBands C H ps bs ∧ BandsOk bs ∧ ∀ H', Same H H' → Q (.bl true) H'
theorem ok_are_bands {f : Addr} {fd : FuncData} {k : Nat} (B : Blt mg) (T : BandDefs P w K mg base C k) (g6 : ∃ t, mg "_MOST_BANDS" = some (.int 6 t)) (g40 : ∃ t, mg "_MOST_PLACES" = some (.int 40 t)) (D : Def P w K mg base CX0 k "is_listed" s_is_listed ["thing"] sp_is_listed)
    (F : Fun K "are_bands" "are_bands" s_are_bands f fd) : FnOk P w K mg base CX0 (k + 1) f fd ["thing"] (sp_are_bands C) := by
  obtain ⟨f1, fd1, F1, b1, g1, G1⟩ := D.ex
  obtain ⟨fc, fdc, mc, bc, Gc⟩ := T.called
  obtain ⟨fl, fdl, ml, bl, Gl⟩ := T.long
  obtain ⟨t6, g6⟩ := g6
  obtain ⟨t40, g40⟩ := g40
  refine F.ok sc_are_bands (fun vs H Q E h => ?_) (fun cdv A outer s H vs Q E hr h => ?_)
  · obtain ⟨l, ps, bs, rfl, _⟩ := h
    rfl
  · obtain ⟨l, ps, bs, rfl, hl, ar, ok, q⟩ := h
    refine ⟨_, pss_cons (ps_if (PW.pt (pw_or (pt_not (pt_val (pe_call G1 hr rfl g1 F1.kp b1 .nil pass0 (pa_cons (pv 0) pa_nil)))) (pw_or1 (pt_not (pt_chain op_le op_le pe_int (pe_callB call_len (by rfl) B.len PySem.boot_len (pa_cons (pv 0) pa_nil)) (pe_glob (v := .int 6) (by rfl) g6 ⟨_, rfl⟩)))))) (pss_one (ps_ret pe_bl)) pss_nil)
      (pss_cons (ps_if (pt_not (pt_val (pe_callB (cr_all rfl) (by rfl) B.all (by decide +kernel) (pa_cons (pe_lc (own := [("band", 1)]) (g := gName 1) (tt := tYes) rfl sc_are_bands.nd (pi_list (pv 0)) (blkOk_by (own := [("band", 1)]) (N := ["thing", "band"]) (sc := defScope s_are_bands) (by decide +kernel))
          (fun _ _ _ _ _ => pg_name (i := 1) sc_are_bands.nd rfl (Or.inl rfl)) (fun _ _ _ _ _ => pts_nil) (fun _ _ _ _ _ => pe_callB (show CallR _ (.builtin "isinstance") (rIsi K) from call_isi) (by rfl) B.isi (by decide +kernel) (pa_cons (pv 1) (pa_cons (pe_glob (v := .ref C) (by rfl) T.txt.gC rfl) pa_nil)))) pa_nil)))) (pss_one (ps_ret pe_bl)) pss_nil)
      (pss_cons (ps_if (pt_cmpR op_lt (pe_lenTexts rfl (by rfl) B.len (by rfl) B.set (pe_lc (own := [("band", 1)]) (g := gName 1) (tt := tYes) rfl sc_are_bands.nd (pi_list (pv 0)) (blkOk_by (own := [("band", 1)]) (N := ["thing", "band"]) (sc := defScope s_are_bands) (by decide +kernel))
          (fun _ _ _ _ _ => pg_name (i := 1) sc_are_bands.nd rfl (Or.inl rfl)) (fun _ _ _ _ _ => pts_nil) (fun _ _ _ _ _ => pe_meth0 (pv 1) T.txt.cl mc Gc hr bc .nil pass0))) (pe_callB call_len (by rfl) B.len PySem.boot_len (pa_cons (pv 0) pa_nil)) (nomark _)) (pss_one (ps_ret pe_bl)) pss_nil)
      (pss_one (ps_ret (pe_cmpR op_le (pe_callB (cr_sum rfl) (by rfl) B.sum (by decide +kernel) (pa_cons (pe_lc (own := [("band", 1)]) (g := gName 1) (tt := tYes) rfl sc_are_bands.nd (pi_list (pv 0)) (blkOk_by (own := [("band", 1)]) (N := ["thing", "band"]) (sc := defScope s_are_bands) (by decide +kernel))
          (fun _ _ _ _ _ => pg_name (i := 1) sc_are_bands.nd rfl (Or.inl rfl)) (fun _ _ _ _ _ => pts_nil) (fun _ _ _ _ _ => pe_meth0 (pv 1) T.txt.cl ml Gl hr bl .nil pass0)) pa_nil)) (pe_glob (v := .int 40) (by rfl) g40 ⟨_, rfl⟩) (nomark _)))))), ?_⟩
    have lo := ok.lo
    have hi := ok.hi
    have ln : (ps.map V.ref).length = bs.length := by rw [List.length_map, ar.1]
    refine ⟨.ref l, rfl, l, rfl, .inl ⟨_, hl⟩, fun H1 s1 => ⟨true, rfl, noOf rfl ?_⟩⟩
    have hl1 := s1 _ _ hl
    refine ⟨.ref l, rfl, .ref l, bs.length, rfl, .inl ⟨_, SqL.of hl1, ln.symm⟩, 1, bs.length, rfl, rfl, _, rfl, yesOf (decide_eq_true (by omega)) ?_⟩
    refine ⟨_, _, rfl, rfl, _, rfl, ?_⟩
    refine noOf (by rw [decide_eq_true (show (bs.length : Int) ≤ 6 by omega)]; rfl) ?_
    -- all are bands
    refine ⟨.ref l, rfl, l, rfl, ⟨_, SqL.of hl1⟩, fun D nD => ?_⟩
    refine lc_true (H := H1) (walk_list (K := K) (a := l) (xs := ps.map V.ref)) (fun H2 sm => SqL.of (sm _ _ hl1)) (by rw [ln]; omega) nD ?_ ?_ mono_name
    · rintro i x H2 H3 Qy hi2 sm ⟨rfl, hx⟩ qy
      obtain ⟨p, b, rfl, ep, eb, dx, e⟩ := (ar.kn (Kn.of (s1.trans sm))).at_ hx
      exact ⟨rfl, .ref p, rfl, .ref p, .ref C, .ref C, .ref C, true, rfl, .own C, T.isi.ty T.txt.cl e, T.isi.self, qy _ (Same.refl _)⟩
    intro H2 s2 hD
    refine ⟨D, _, rfl, SqL.of hD, ?_⟩
    rw [all_true]
    refine ⟨true, rfl, noOf rfl ?_⟩
    have s12 := s1.trans s2
    have hl2 := s12 _ _ hl
    have ar2 := ar.kn (Kn.of s12)
    -- unlike names
    refine ⟨.ref l, rfl, l, rfl, ⟨_, SqL.of hl2⟩, fun D2 nD2 => ?_⟩
    refine lc_v (H := H2) (walk_list (K := K) (a := l) (xs := ps.map V.ref)) (fun H3 sm => SqL.of (sm _ _ hl2)) (fun i _ r => r = (bs.take i).map fun b => V.str (tx b.name)) (fun _ => rfl) (fun i _ r _ e => ?_) (fun _ _ _ _ _ e => e) nD2 ?_ ?_
    · rw [e, List.length_map, List.length_take]
      omega
    · rintro i x H3 H4 r Qy Qn hi2 sm hr3 ⟨rfl, hx⟩ qy _
      obtain ⟨p, b, rfl, ep, eb, dx, e⟩ := (ar2.kn (Kn.of sm)).at_ hx
      refine ⟨rfl, yes_kept ⟨.ref p, rfl, p, dx, _, rfl, e, no_called b, p, b, rfl, ⟨dx, e⟩, qy _ _ (Same.refl _) ?_⟩⟩
      rw [hr3, List.take_add_one, eb, List.map_append]
      rfl
    · intro H3 r s3 hr3 hD2
      have full : r = ((bs.map fun b => tx b.name).map V.str) := by
        rw [hr3, ln, List.take_length, List.map_map]
        rfl
      rw [full] at hD2
      have nd : (bs.map fun b => tx b.name).Nodup := by
        have e : (bs.map fun b => tx b.name) = (bs.map (·.name)).map tx := by rw [List.map_map]; rfl
        rw [e]
        exact List.pairwise_map.mpr (ok.nd.imp fun {a b} ne z => ne (tx_inj z))
      have s13 := s12.trans s3
      have hl3 := s13 _ _ hl
      have ar3 := ar.kn (Kn.of s13)
      refine ⟨D2, _, rfl, SqL.of hD2, nd, by rw [List.length_map]; omega, .ref l, rfl, .ref l, bs.length, rfl, .inl ⟨_, SqL.of hl3, ln.symm⟩, _, _, rfl, rfl, _, rfl, noOf (decide_eq_false (by rw [List.length_map]; omega)) ?_⟩
      -- not too many places
      refine ⟨.ref l, rfl, l, rfl, ⟨_, SqL.of hl3⟩, fun D3 nD3 => ?_⟩
      refine lc_v (H := H3) (walk_list (K := K) (a := l) (xs := ps.map V.ref)) (fun H4 sm => SqL.of (sm _ _ hl3)) (fun i _ r => r = (bs.take i).map fun b => V.int b.long) (fun _ => rfl) (fun i _ r _ e => ?_) (fun _ _ _ _ _ e => e) nD3 ?_ ?_
      · rw [e, List.length_map, List.length_take]
        omega
      · rintro i x H4 H5 r4 Qy Qn hi2 sm hr4 ⟨rfl, hx⟩ qy _
        obtain ⟨p, b, rfl, ep, eb, dx, e⟩ := (ar3.kn (Kn.of sm)).at_ hx
        refine ⟨rfl, yes_kept ⟨.ref p, rfl, p, dx, _, rfl, e, no_long b, p, b, rfl, ⟨dx, e⟩, qy _ _ (Same.refl _) ?_⟩⟩
        rw [hr4, List.take_add_one, eb, List.map_append]
        rfl
      · intro H4 r4 s4 hr4 hD3
        have full4 : r4 = ((bs.map fun b => (b.long : Int)).map V.int) := by
          rw [hr4, ln, List.take_length, List.map_map]
          rfl
        rw [full4] at hD3
        refine ⟨D3, _, rfl, SqL.of hD3, _, 40, rfl, rfl, ?_⟩
        have sum : ((bs.map fun b => (b.long : Int)).sum) = (((bs.map (·.long)).sum : Nat) : Int) := by
          have go : ∀ l : List BandL, (l.map fun b => (b.long : Int)).sum = (((l.map (·.long)).sum : Nat) : Int) := by
            intro l
            induction l with
            | nil => rfl
            | cons b l ih =>
              rw [List.map_cons, List.map_cons, List.sum_cons, List.sum_cons, ih]
              omega
          exact go bs
        have all := ok.all
        exact qbl (decide_eq_true (by rw [sum]; omega)) (q H4 (s13.trans s4))
end
end K05
set_option Elab.async false
set_option linter.all false
set_option maxRecDepth 100000
set_option maxHeartbeats 1000000
/-! All places. -/
namespace K05
open PySem PySem.Spec PyProof.Rows L2 Bp
def rangeP (b : BandL) (n : Nat) : List PlaceL := (List.range n).map fun i => ⟨b.name, i⟩
def placesL (bs : List BandL) : List PlaceL := bs.flatMap fun b => rangeP b b.long
def RPlace : Hp → V → PlaceL → Prop := fun H v s => ∃ t, v = .ref t ∧ IsPlace H t s
theorem RPlace.kn {H H' : Hp} (k : Kn H H') : ∀ v s, RPlace H v s → RPlace H' v s := fun v s ⟨t, e, h⟩ => ⟨t, e, h.kn k⟩
abbrev Places (H : Hp) (l : List V) (ps : List PlaceL) : Prop := Each RPlace H l ps
theorem placesL_len (bs : List BandL) : (placesL bs).length = (bs.map (·.long)).sum := by
  induction bs with
  | nil => rfl
  | cons b bs ih =>
    show (rangeP b b.long ++ placesL bs).length = _
    rw [List.length_append, ih, List.map_cons, List.sum_cons]
    unfold rangeP
    rw [List.length_map, List.length_range]
theorem placesL_snoc (bs : List BandL) (b : BandL) : placesL (bs ++ [b]) = placesL bs ++ rangeP b b.long := by
  unfold placesL
  rw [List.flatMap_append]
  simp
theorem rangeP_succ (b : BandL) (n : Nat) : rangeP b (n + 1) = rangeP b n ++ [⟨b.name, n⟩] := by
  unfold rangeP
  rw [List.range_succ, List.map_append]
  rfl
theorem rangeP_len (b : BandL) (n : Nat) : (rangeP b n).length = n := by
  unfold rangeP
  rw [List.length_map, List.length_range]
theorem sum_take_le (bs : List BandL) (i : Nat) : ((bs.take i).map (·.long)).sum ≤ (bs.map (·.long)).sum := by
  induction bs generalizing i with
  | nil => simp
  | cons b bs ih =>
    cases i with
    | zero => simp
    | succ i =>
      rw [List.take_succ_cons, List.map_cons, List.map_cons, List.sum_cons, List.sum_cons]
      have := ih i
      omega
section
variable {P : Program} {w : World} {K : PySem.W.Frag} {mg : Str → Option Value} {base : Heap} {C : Addr}
theorem sc_places_of : FnScope ["bands", "band", "number"] ["bands"] (defScope s_places_of) := ⟨rfl, rfl, rfl, by decide +kernel, rfl, by decide +kernel, by decide +kernel⟩
def sp_places_of (C : Addr) : Sp := fun vs H Q _ => ∃ (l : Addr) (ps : List Addr) (bs : List BandL), vs = [.ref l] ∧ H l = some (.lst (ps.map V.ref)) ∧ AreBands C H ps bs ∧ BandsOk bs ∧
  ∀ D r H', Same H H' → H D = none → H' D = some (.lst r) → Places H' r (placesL bs) → Q (.ref D) H'
theorem ok_places_of {f : Addr} {fd : FuncData} {k : Nat} (B : Blt mg) (T : BandDefs P w K mg base C k) (F : Fun K "places_of" "places_of" s_places_of f fd) : FnOk P w K mg base CX0 (k + 1) f fd ["bands"] (sp_places_of C) := by
  obtain ⟨fc, fdc, mc, bc, Gc⟩ := T.called
  obtain ⟨fl, fdl, ml, bl, Gl⟩ := T.long
  refine F.ok sc_places_of (fun vs H Q E h => ?_) (fun cdv A outer s H vs Q E hr h => ?_)
  · obtain ⟨l, ps, bs, rfl, _⟩ := h
    rfl
  · obtain ⟨l, ps, bs, rfl, hl, ar, ok, q⟩ := h
    refine ⟨_, pss_one (ps_ret (pe_lc2 (own := [("band", 1), ("number", 2)]) (vs1 := [2]) (g := gName 1) (tt := tYes) (g1 := gName 2) (tt1 := tYes) rfl sc_places_of.nd (pi_list (pv 0)) (blkOk_by (own := [("band", 1), ("number", 2)]) (N := ["bands", "band", "number"]) (sc := defScope s_places_of) (by decide +kernel)) (by decide)
      (fun _ _ _ _ _ => pg_name (i := 1) sc_places_of.nd rfl (Or.inl rfl)) (fun _ _ _ _ _ => pts_nil) (fun _ _ _ _ _ => pi_range1 (by rfl) B.rng (pa_cons (pe_meth0 (pv 1) T.txt.cl ml Gl hr bl .nil pass0) pa_nil))
      (fun _ _ _ _ _ => pg_name (i := 2) sc_places_of.nd rfl (Or.inl rfl)) (fun _ _ _ _ _ => pts_nil) (fun _ _ _ _ _ => pe_tup (pa_cons (pe_meth0 (pv 1) T.txt.cl mc Gc hr bc .nil pass0) (pa_cons (pv 2) pa_nil))))), ?_⟩
    refine ⟨.ref l, rfl, l, rfl, ⟨_, SqL.of hl⟩, fun D nD => ?_⟩
    have ln : (ps.map V.ref).length = bs.length := by rw [List.length_map, ar.1]
    refine walk_w (walk_list (K := K) (a := l) (xs := ps.map V.ref)) (fun i H1 => Same H H1 ∧ ∃ r, H1 D = some (.lst r) ∧ Places H1 r (placesL (bs.take i))) ⟨same_new nD, [], upd_same, Each.nil⟩ (fun i H1 _ z => SqL.of (z.1 _ _ hl)) ?_ ?_
    · rintro i x H1 H1' hi ⟨sm, r, hD, pl⟩ ⟨rfl, hx⟩
      obtain ⟨p, b, rfl, ep, eb, dx, e⟩ := (ar.kn (Kn.of sm)).at_ hx
      have okb := ok.each b (List.mem_of_getElem? eb)
      have all := ok.all
      have hib := okb.hi
      refine ⟨rfl, yes_kept ?_⟩
      refine ⟨.ref p, rfl, p, dx, _, rfl, e, no_long b, p, b, rfl, ⟨dx, e⟩, b.long, rfl, by omega, by omega, ?_⟩
      have tn : (b.long : Int).toNat = b.long := Int.toNat_natCast _
      rw [tn]
      refine walk_w (walk_range (lo := 0) (n := b.long)) (fun j H2 => Same H H2 ∧ ∃ r, H2 D = some (.lst r) ∧ Places H2 r (placesL (bs.take i) ++ rangeP b j)) ⟨sm, r, hD, ?_⟩ (fun _ _ _ _ => trivial) ?_ ?_
      · have e0 : placesL (bs.take i) ++ rangeP b 0 = placesL (bs.take i) := by
          unfold rangeP
          simp
        rw [e0]
        exact pl
      · rintro j y H2 H2' hj ⟨sm2, r2, hD2, pl2⟩ ⟨rfl, rfl⟩
        have e2 : ∃ dx, H2' p = some (.ins C dx (bandF b)) := (ar.kn (Kn.of sm2)).2 i p b ep eb
        obtain ⟨dx2, e2⟩ := e2
        refine ⟨rfl, yes_kept ?_⟩
        refine ⟨.ref p, rfl, p, dx2, _, rfl, e2, no_called b, p, b, rfl, ⟨dx2, e2⟩, .int (0 + (j : Int)), rfl, (by show 2 ≤ sizeLine; decide), fun t nt => ?_⟩
        have D_t : D ≠ t := ne_of_none hD2 nt
        have few : r2.length ≤ 1000 := by
          rw [pl2.1, List.length_append, placesL_len, rangeP_len]
          have := sum_take_le bs i
          omega
        refine ⟨r2, by rw [upd_ne D_t]; exact hD2, small1000 few, fun c o ec => ?_, r2 ++ [.ref t], upd_same, ?_⟩
        · rw [upd_ne (ne_of_none ec nD), upd_ne (ne_of_none (sm2 _ _ ec) nt)]
          exact sm2 _ _ ec
        · rw [rangeP_succ, ← List.append_assoc]
          have kn : Kn H2' (upd (upd H2' t (.tup [.str (tx b.name), .int (0 + (j : Int))])) D (.lst (r2 ++ [.ref t]))) := (Kn.new nt).trans (Kn.put (by rw [upd_ne D_t]; exact hD2))
          refine (pl2.imp (RPlace.kn kn)).snoc ⟨t, rfl, ?_⟩
          show upd (upd H2' t _) D _ t = _
          rw [upd_ne (fun z => D_t z.symm), upd_same, Int.zero_add]
      · rintro H2 ⟨sm2, r2, hD2, pl2⟩
        refine ⟨sm2, r2, hD2, ?_⟩
        rw [List.take_add_one, eb]
        show Places H2 r2 (placesL (bs.take i ++ [b]))
        rw [placesL_snoc]
        exact pl2
    · rintro H1 ⟨sm, r, hD, pl⟩
      rw [ln, List.take_length] at pl
      exact q D r H1 sm nD hD pl
end
end K05
set_option Elab.async false
set_option linter.all false
set_option maxRecDepth 100000
set_option maxHeartbeats 1000000
/-! Presses for a work. -/
namespace K05
open PySem PySem.Spec PyProof.Rows L2 Bp
/-! ### places as data -/
def placeD (s : PlaceL) : PyData := .tuple [.str (tx s.name), .int s.at_]
theorem dp_place {K : PySem.W.Frag} {H : Hp} {t : Addr} {s : PlaceL} (h : IsPlace H t s) : Dp K H (.ref t) (placeD s) := .tup (SqT.of h) (.cons (.str _) (.cons (.int _) .nil))
theorem lay_tx {m : List Nat} (h : Low m) : PyData.canLay0 (.str (tx m)) = true := by
  rw [PyData.canLay0]
  refine Array.all_eq_true_iff_forall_mem.mpr fun c hc => ?_
  have hc' : c ∈ m := by
    unfold tx at hc
    simpa using hc
  have := (h c hc').2
  exact decide_eq_true (by omega)
theorem lay_place {s : PlaceL} (h : Low s.name) : PyData.canLay0 (placeD s) = true := by
  unfold placeD
  rw [PyData.canLay0, PyData.canLayAll0, PyData.canLayAll0, PyData.canLayAll0, lay_tx h, PyData.canLay0]
  rfl
theorem depth_place (s : PlaceL) : PyData.depth (placeD s) = 1 := by
  unfold placeD
  rw [PyData.depth, PyData.depthAll, PyData.depthAll, PyData.depthAll, PyData.depth, PyData.depth]
  rfl
theorem shaped_place {s : PlaceL} (h : Low s.name) : SeqAt.shaped (placeD s) = true := by
  unfold SeqAt.shaped
  rw [lay_place h, depth_place]
  rfl
theorem lay_places : ∀ {ps : List PlaceL}, (∀ s ∈ ps, Low s.name) → PyData.canLayAll0 (ps.map placeD) = true
  | [], _ => by rw [List.map_nil, PyData.canLayAll0]
  | s :: ps, h => by rw [List.map_cons, PyData.canLayAll0, lay_place (h s (List.mem_cons_self ..)), lay_places fun x hx => h x (List.mem_cons_of_mem _ hx)]; rfl
theorem depth_places : ∀ ps : List PlaceL, PyData.depthAll (ps.map placeD) ≤ 1
  | [] => by rw [List.map_nil, PyData.depthAll]; decide
  | s :: ps => by
    rw [List.map_cons, PyData.depthAll, depth_place]
    have := depth_places ps
    omega
theorem shaped_places {ps : List PlaceL} (h : ∀ s ∈ ps, Low s.name) : SeqAt.shaped (.list (ps.map placeD)) = true := by
  unfold SeqAt.shaped
  rw [PyData.canLay0, lay_places h, PyData.depth]
  have := depth_places ps
  exact decide_eq_true (by omega)
theorem dps_places {K : PySem.W.Frag} {H : Hp} : ∀ {l : List V} {ps : List PlaceL}, Places H l ps → DpAll K H l (ps.map placeD)
  | [], [], _ => .nil
  | [], _ :: _, h => by cases h.1
  | _ :: _, [], h => by cases h.1
  | v :: l, s :: ps, h => by
    obtain ⟨t, rfl, ht⟩ := h.2 0 v s rfl rfl
    exact .cons (dp_place ht) (dps_places ⟨Nat.succ.inj h.1, fun i v x e1 e2 => h.2 (i + 1) v x e1 e2⟩)
theorem dp_places {K : PySem.W.Frag} {H : Hp} {D : Addr} {l : List V} {ps : List PlaceL} (e : H D = some (.lst l)) (h : Places H l ps) : Dp K H (.ref D) (.list (ps.map placeD)) := .lst (SqL.of e) (dps_places h)
theorem in_places {ps : List PlaceL} {s : PlaceL} (low : Low s.name) (h : s ∈ ps) : ((ps.map placeD).any fun z => PyData.eqv z (placeD s)) = true :=
  List.any_eq_true.mpr ⟨placeD s, List.mem_map.mpr ⟨s, h, rfl⟩, SeqAt.eqv_refl _ (lay_place low)⟩
/-- what Press's methods promise -/
structure PressDefs (P : Program) (w : World) (K : PySem.W.Frag) (mg : Str → Option Value) (base : Heap) (C : Addr) (k : Nat) : Prop where
  txt : PressTxt K mg C
  isi : IsiTxt K C
  above : ∃ f fd, Meth K C "above" f ∧ Binds K fd ["self"] [] ∧ FnOk P w K mg base CX0 k f fd ["self"] (sp_Press_above C)
  below : ∃ f fd, Meth K C "below" f ∧ Binds K fd ["self"] [] ∧ FnOk P w K mg base CX0 k f fd ["self"] (sp_Press_below C)
  table : ∃ f fd, Meth K C "table" f ∧ Binds K fd ["self"] [] ∧ FnOk P w K mg base CX0 k f fd ["self"] (sp_Press_table C)
  rhythm : ∃ f fd, Meth K C "rhythm" f ∧ Binds K fd ["self"] [] ∧ FnOk P w K mg base CX0 k f fd ["self"] (sp_Press_rhythm C)
theorem no_above (a b t : Addr) (n : List Nat) : (pressF a b t n).lookup ("above" : Str) = none := pressF_no a b t n (by decide +kernel) (by decide +kernel) (by decide +kernel) (by decide +kernel)
theorem no_below (a b t : Addr) (n : List Nat) : (pressF a b t n).lookup ("below" : Str) = none := pressF_no a b t n (by decide +kernel) (by decide +kernel) (by decide +kernel) (by decide +kernel)
theorem no_table (a b t : Addr) (n : List Nat) : (pressF a b t n).lookup ("table" : Str) = none := pressF_no a b t n (by decide +kernel) (by decide +kernel) (by decide +kernel) (by decide +kernel)
theorem no_rhythm (a b t : Addr) (n : List Nat) : (pressF a b t n).lookup ("rhythm" : Str) = none := pressF_no a b t n (by decide +kernel) (by decide +kernel) (by decide +kernel) (by decide +kernel)
/-- a press that fits signs and places -/
structure FitsWork (signs : List Nat) (pls : List PlaceL) (r : PressL) : Prop where
  ok : r.Ok signs.length
  ab : r.above ∈ pls
  be : r.below ∈ pls
  let_ : ∀ m ∈ r.table, ∀ c ∈ m, c ∈ signs
section
variable {P : Program} {w : World} {K : PySem.W.Frag} {mg : Str → Option Value} {base : Heap} {C : Addr}
theorem sc_is_press_for : FnScope ["thing", "signs", "places", "text", "letter"] ["thing", "signs", "places"] (defScope s_is_press_for) := ⟨rfl, rfl, rfl, by decide +kernel, rfl, by decide +kernel, by decide +kernel⟩
def sp_is_press_for (C : Addr) : Sp := fun vs H Q _ => ∃ (p D : Addr) (signs : List Nat) (l : List V) (pls : List PlaceL) (r : PressL), vs = [.ref p, .str (tx signs), .ref D] ∧ signs.length ≤ 4 ∧ H D = some (.lst l) ∧ Places H l pls ∧ (∀ s ∈ pls, Low s.name) ∧
  IsPress C H p r ∧ FitsWork signs pls r ∧ ∀ H', Same H H' → Q (.bl true) H'
theorem ok_is_press_for {f : Addr} {fd : FuncData} {k : Nat} (B : Blt mg) (T : PressDefs P w K mg base C k) (F : Fun K "is_press_for" "is_press_for" s_is_press_for f fd) : FnOk P w K mg base CX0 (k + 1) f fd ["thing", "signs", "places"] (sp_is_press_for C) := by
  obtain ⟨fa, fda, ma, ba, Ga⟩ := T.above
  obtain ⟨fb, fdb, mb, bb, Gb⟩ := T.below
  obtain ⟨ft, fdt, mt, bt, Gt⟩ := T.table
  refine F.ok sc_is_press_for (fun vs H Q E h => ?_) (fun cdv A outer s H vs Q E hr h => ?_)
  · obtain ⟨p, D, signs, l, pls, r, rfl, _⟩ := h
    rfl
  · obtain ⟨p, D, signs, l, pls, r, rfl, s4, hD, pl, low, ip, fw, q⟩ := h
    have hu65 : A.units + 3 + 65 < cLine := by
      have := hr.un
      have e : (A.deeper (envOfC "is_press_for" (defScope s_is_press_for) s.heap.objs.size f cdv)).units = A.units + 3 := rfl
      omega
    refine ⟨_, pss_cons (ps_if (PW.pt (pw_or (pt_not (pt_val (pe_callB call_isi (by rfl) B.isi (by decide +kernel) (pa_cons (pv 0) (pa_cons (pe_glob (v := .ref C) (by rfl) T.txt.gC rfl) pa_nil)))))
        (pw_or (pt_cmpR (op_notInD hu65) (pe_meth0 (pv 0) T.txt.cl ma Ga hr ba .nil pass0) (pv 2) (by rfl)) (pw_or1 (pt_cmpR (op_notInD hu65) (pe_meth0 (pv 0) T.txt.cl mb Gb hr bb .nil pass0) (pv 2) (by rfl)))))) (pss_one (ps_ret pe_bl)) pss_nil)
      (pss_cons (ps_if (pt_cmpR op_ne (pe_callB call_len (by rfl) B.len PySem.boot_len (pa_cons (pe_meth0 (pv 0) T.txt.cl mt Gt hr bt .nil pass0) pa_nil)) (pe_callB call_len (by rfl) B.len PySem.boot_len (pa_cons (pv 1) pa_nil)) (nomark _)) (pss_one (ps_ret pe_bl)) pss_nil)
      (pss_one (ps_ret (pe_callB (cr_all rfl) (by rfl) B.all (by decide +kernel) (pa_cons (pe_lc2 (own := [("text", 3), ("letter", 4)]) (vs1 := [4]) (g := gName 3) (tt := tYes) (g1 := gName 4) (tt1 := tYes) rfl sc_is_press_for.nd (pi_tup (pe_meth0 (pv 0) T.txt.cl mt Gt hr bt .nil pass0))
        (blkOk_by (own := [("text", 3), ("letter", 4)]) (N := ["thing", "signs", "places", "text", "letter"]) (sc := defScope s_is_press_for) (by decide +kernel)) (by decide)
        (fun _ _ _ _ _ => pg_name (i := 3) sc_is_press_for.nd rfl (Or.inl rfl)) (fun _ _ _ _ _ => pts_nil) (fun _ _ _ _ _ => pi_str (pv 3))
        (fun _ _ _ _ _ => pg_name (i := 4) sc_is_press_for.nd rfl (Or.inl rfl)) (fun _ _ _ _ _ => pts_nil) (fun _ _ _ _ _ => pe_cmpR op_in_sign (pv 4) (pv 1) (by rfl))) pa_nil))))), ?_⟩
    obtain ⟨dx, a, b, t, e, pa⟩ := id ip
    have n4 := fw.ok.tb
    refine ⟨.ref p, rfl, .ref p, .ref C, .ref C, .ref C, true, rfl, .own C, T.isi.ty T.txt.cl e, T.isi.self, true, rfl, noOf rfl ?_⟩
    refine ⟨.ref p, rfl, p, dx, _, rfl, e, no_above _ _ _ _, p, r, rfl, ip, fun a1 ha1 => ?_⟩
    refine ⟨.ref D, rfl, _, _, dp_place ha1, dp_places hD pl, shaped_place fw.ok.a1.low, shaped_places low, _, rfl, noOf (by rw [in_places fw.ok.a1.low fw.ab]; rfl) ?_⟩
    refine ⟨.ref p, rfl, p, dx, _, rfl, e, no_below _ _ _ _, p, r, rfl, ip, fun b1 hb1 => ?_⟩
    refine ⟨.ref D, rfl, _, _, dp_place hb1, dp_places hD pl, shaped_place fw.ok.b1.low, shaped_places low, _, rfl, noOf (by rw [in_places fw.ok.b1.low fw.be]; rfl) ?_⟩
    refine ⟨.ref p, rfl, p, dx, _, rfl, e, no_table _ _ _ _, p, r, rfl, ip, fun t1 ht1 => ?_⟩
    refine ⟨.ref t1, signs.length, rfl, .inr ⟨_, SqT.of ht1, by rw [txs_len, n4.len]⟩, .str (tx signs), rfl, .str (tx signs), signs.length, rfl, ⟨fit_tx (by omega), (tx_len signs).symm⟩, rfl, _, rfl, noOf (by rw [decide_eq_true rfl]; rfl) ?_⟩
    refine ⟨.ref p, rfl, p, dx, _, rfl, e, no_table _ _ _ _, p, r, rfl, ip, fun t2 ht2 => ⟨t2, rfl, ⟨_, SqT.of ht2⟩, fun D2 nD2 => ?_⟩⟩
    have tl : (txs r.table).length = signs.length := by rw [txs_len, n4.len]
    refine walk_w (walk_tup (K := K) (a := t2) (xs := txs r.table)) (fun i H1 => Same H H1 ∧ H1 D2 = some (.lst ((List.replicate (i * signs.length) true).map V.bl))) ⟨same_new nD2, by rw [upd_same, Nat.zero_mul]; rfl⟩ (fun i H1 _ z => SqT.of (z.1 _ _ ht2)) ?_ ?_
    · rintro i x H1 H1' hi ⟨sm, hD2⟩ ⟨rfl, hx⟩
      obtain ⟨m, hm, rfl⟩ : ∃ m, m ∈ r.table ∧ x = .str (tx m) := by
        obtain ⟨m, hm, e⟩ := List.mem_map.mp (List.mem_of_getElem? hx)
        exact ⟨m, hm, e.symm⟩
      obtain ⟨mn, _⟩ := n4.each m hm
      rw [tl] at hi
      have i16 : i * signs.length + signs.length ≤ 100 := by
        have : i * signs.length ≤ 4 * 4 := Nat.mul_le_mul (by omega) s4
        omega
      refine ⟨rfl, yes_kept ?_⟩
      refine ⟨.str (tx m), rfl, tx m, rfl, ?_⟩
      refine walk_w (walk_str (z := tx m)) (fun j H2 => Same H H2 ∧ H2 D2 = some (.lst ((List.replicate (i * signs.length + j) true).map V.bl))) ⟨sm, hD2⟩ (fun _ _ _ _ => trivial) ?_ ?_
      · rintro j y H2 H2' hj ⟨sm2, hD3⟩ ⟨rfl, c, hc, rfl⟩
        have hc' : m[j]? = some c := by rw [← tx_list m, Array.getElem?_toList]; exact hc
        have jl : j < m.length := by rw [← tx_len m]; exact hj
        refine ⟨rfl, yes_kept ?_⟩
        refine ⟨.str (tx [c]), rfl, .str (tx signs), rfl, c, tx signs, rfl, rfl, _, hD3, ?_, fun b o eb => ?_, ?_⟩
        · rw [List.length_map, List.length_replicate]
          exact small1000 (by omega)
        · rw [upd_ne (ne_of_none eb nD2)]
          exact sm2 _ _ eb
        · rw [upd_same, tx_list, decide_eq_true (fw.let_ m hm c (List.mem_of_getElem? hc')), ← Nat.add_assoc, List.replicate_succ', List.map_append]
          rfl
      · rintro H2 ⟨sm2, hD3⟩
        refine ⟨sm2, ?_⟩
        rw [hD3, show (tx m).cps.size = m.length from tx_len m, mn, Nat.succ_mul]
    · rintro H1 ⟨sm, hD2⟩
      refine ⟨D2, _, rfl, SqL.of hD2, ?_⟩
      rw [all_true]
      exact q H1 sm
end
end K05
set_option Elab.async false
set_option linter.all false
set_option maxRecDepth 100000
set_option maxHeartbeats 1000000
/-! Works. -/
namespace K05
open PySem PySem.Spec PyProof.Rows L2 Bp
def RPress (C : Addr) : Hp → V → PressL → Prop := fun H v r => ∃ p, v = .ref p ∧ IsPress C H p r
theorem RPress.kn {C : Addr} {H H' : Hp} (k : Kn H H') : ∀ v r, RPress C H v r → RPress C H' v r := fun v r ⟨p, e, h⟩ => ⟨p, e, h.kn k⟩
abbrev Presses (C : Addr) (H : Hp) (l : List V) (rs : List PressL) : Prop := Each (RPress C) H l rs
section
variable {P : Program} {w : World} {K : PySem.W.Frag} {mg : Str → Option Value} {base : Heap} {C : Addr}
theorem sc_are_presses : FnScope ["thing", "signs", "places", "press"] ["thing", "signs", "places"] (defScope s_are_presses) := ⟨rfl, rfl, rfl, by decide +kernel, rfl, by decide +kernel, by decide +kernel⟩
def sp_are_presses (C : Addr) : Sp := fun vs H Q _ => ∃ (a D : Addr) (signs : List Nat) (l m : List V) (pls : List PlaceL) (rs : List PressL), vs = [.ref a, .str (tx signs), .ref D] ∧ signs.length ≤ 4 ∧ H a = some (.lst m) ∧ H D = some (.lst l) ∧ Places H l pls ∧ (∀ s ∈ pls, Low s.name) ∧
  Presses C H m rs ∧ rs.length ≤ 8 ∧ (∀ r ∈ rs, FitsWork signs pls r) ∧ ∀ H', Same H H' → Q (.bl true) H'
theorem ok_are_presses {f : Addr} {fd : FuncData} {k : Nat} (B : Blt mg) (g8 : ∃ t, mg "_MOST_PRESSES" = some (.int 8 t)) (D1 : Def P w K mg base CX0 k "is_listed" s_is_listed ["thing"] sp_is_listed) (D2 : Def P w K mg base CX0 k "is_press_for" s_is_press_for ["thing", "signs", "places"] (sp_is_press_for C))
    (F : Fun K "are_presses" "are_presses" s_are_presses f fd) : FnOk P w K mg base CX0 (k + 1) f fd ["thing", "signs", "places"] (sp_are_presses C) := by
  obtain ⟨f1, fd1, F1, b1, g1, G1⟩ := D1.ex
  obtain ⟨f2, fd2, F2, b2, g2, G2⟩ := D2.ex
  obtain ⟨tk, gl⟩ := g8
  refine F.ok sc_are_presses (fun vs H Q E h => ?_) (fun cdv A outer s H vs Q E hr h => ?_)
  · obtain ⟨a, D, signs, l, m, pls, rs, rfl, _⟩ := h
    rfl
  · obtain ⟨a, D, signs, l, m, pls, rs, rfl, s4, ha, hD, pl, low, pr, few, fit, q⟩ := h
    refine ⟨_, pss_cons (ps_if (PW.pt (pw_or (pt_not (pt_val (pe_call G1 hr rfl g1 F1.kp b1 .nil pass0 (pa_cons (pv 0) pa_nil)))) (pw_or1 (pt_cmpR op_gt (pe_callB call_len (by rfl) B.len PySem.boot_len (pa_cons (pv 0) pa_nil)) (pe_glob (v := .int 8) (by rfl) gl ⟨_, rfl⟩) (nomark _))))) (pss_one (ps_ret pe_bl)) pss_nil)
      (pss_one (ps_ret (pe_callB (cr_all rfl) (by rfl) B.all (by decide +kernel) (pa_cons (pe_lc (own := [("press", 3)]) (g := gName 3) (tt := tYes) rfl sc_are_presses.nd (pi_list (pv 0)) (blkOk_by (own := [("press", 3)]) (N := ["thing", "signs", "places", "press"]) (sc := defScope s_are_presses) (by decide +kernel))
        (fun _ _ _ _ _ => pg_name (i := 3) sc_are_presses.nd rfl (Or.inl rfl)) (fun _ _ _ _ _ => pts_nil) (fun _ _ _ _ _ => pe_call G2 hr rfl g2 F2.kp b2 .nil pass0 (pa_cons (pv 3) (pa_cons (pv 1) (pa_cons (pv 2) pa_nil))))) pa_nil)))), ?_⟩
    refine ⟨.ref a, rfl, a, rfl, .inl ⟨_, ha⟩, fun H1 s1 => ⟨true, rfl, noOf rfl ?_⟩⟩
    have ha1 := s1 _ _ ha
    refine ⟨.ref a, rfl, .ref a, rs.length, rfl, .inl ⟨_, SqL.of ha1, pr.1.symm⟩, rs.length, 8, rfl, rfl, _, rfl, noOf (decide_eq_false (by omega)) ?_⟩
    refine ⟨.ref a, rfl, a, rfl, ⟨_, SqL.of ha1⟩, fun D2 nD2 => ?_⟩
    refine lc_true (H := H1) (walk_list (K := K) (a := a) (xs := m)) (fun H2 sm => SqL.of (sm _ _ ha1)) (by rw [pr.1]; omega) nD2 ?_ ?_ mono_name
    · rintro i x H2 H3 Qy hi sm ⟨rfl, hx⟩ qy
      have sm2 := s1.trans sm
      have kn := Kn.of sm2
      obtain ⟨r, er, p, rfl, ip⟩ := (pr.imp (RPress.kn kn)).at_ hx
      exact ⟨rfl, .ref p, rfl, .str (tx signs), rfl, .ref D, rfl, p, D, signs, l, pls, r, rfl, s4, sm2 _ _ hD, pl.imp (RPlace.kn kn), low, ip, fit r (List.mem_of_getElem? er), fun H4 s4 => qy _ s4⟩
    · intro H2 sm hD2
      refine ⟨D2, _, rfl, SqL.of hD2, ?_⟩
      rw [all_true]
      exact q H2 (s1.trans sm)
end
end K05
set_option Elab.async false
set_option linter.all false
set_option maxRecDepth 100000
set_option maxHeartbeats 2000000
/-! Works, the class. -/
namespace K05
open PySem PySem.Spec PyProof.Rows L2 Bp
theorem PlaceL.ext {a b : PlaceL} (h1 : a.name = b.name) (h2 : a.at_ = b.at_) : a = b := by
  cases a
  cases b
  cases h1
  cases h2
  rfl
instance : DecidableEq PlaceL := fun a b =>
  if h : a.name = b.name ∧ a.at_ = b.at_ then isTrue (PlaceL.ext h.1 h.2) else isFalse fun e => h ⟨by rw [e], by rw [e]⟩
def keyOf (s : PlaceL) : List Key := [.inr (tx s.name), .inl (s.at_ : Int)]
theorem keyOf_inj {a b : PlaceL} (h : keyOf a = keyOf b) : a = b := by
  unfold keyOf at h
  have h1 := (List.cons.inj h).1
  have h2 := (List.cons.inj (List.cons.inj h).2).1
  exact PlaceL.ext (tx_inj (Sum.inr.inj h1)) (Int.ofNat.inj (Sum.inl.inj h2))
theorem keyOf_vals (s : PlaceL) : (keyOf s).map kV = [.str (tx s.name), .int s.at_] := rfl
def numFrom : List PlaceL → Nat → List (List Key × V)
  | [], _ => []
  | s :: r, o => (keyOf s, .int (o : Nat)) :: numFrom r (o + 1)
theorem numFrom_snoc : ∀ (l : List PlaceL) (s : PlaceL) (o : Nat), numFrom (l ++ [s]) o = numFrom l o ++ [(keyOf s, .int ((o + l.length : Nat) : Int))]
  | [], s, o => rfl
  | x :: l, s, o => by
    show (keyOf x, V.int (o : Nat)) :: numFrom (l ++ [s]) (o + 1) = _
    rw [numFrom_snoc l s (o + 1), List.length_cons]
    have e : o + 1 + l.length = o + (l.length + 1) := by omega
    rw [e]
    rfl
theorem numFrom_len : ∀ (l : List PlaceL) (o : Nat), (numFrom l o).length = l.length
  | [], _ => rfl
  | x :: l, o => by
    show (numFrom l (o + 1)).length + 1 = _
    rw [numFrom_len l (o + 1), List.length_cons]
theorem numFrom_val : ∀ (l : List PlaceL) (s : PlaceL) (o : Nat), valV (numFrom l o) (keyOf s) = if s ∈ l then some (.int ((o + l.idxOf s : Nat) : Int)) else none
  | [], s, o => rfl
  | x :: l, s, o => by
    show valV ((keyOf x, V.int (o : Nat)) :: numFrom l (o + 1)) (keyOf s) = _
    by_cases e : x = s
    · subst e
      rw [valV_pos rfl, if_pos (List.mem_cons_self ..), List.idxOf_cons_self]
      rfl
    · rw [valV_neg (fun h => e (keyOf_inj h)), numFrom_val l s (o + 1)]
      by_cases m : s ∈ l
      · rw [if_pos m, if_pos (List.mem_cons_of_mem _ m), List.idxOf_cons, beq_eq_false_iff_ne.mpr e]
        show some (V.int ((o + 1 + l.idxOf s : Nat) : Int)) = some (V.int ((o + (l.idxOf s + 1) : Nat) : Int))
        rw [show o + 1 + l.idxOf s = o + (l.idxOf s + 1) by omega]
      · rw [if_neg m, if_neg (fun h => (List.mem_cons.mp h).elim (fun z => e z.symm) m)]
structure WorkL where
  signs : List Nat
  bands : List BandL
  presses : List PressL
def WorkL.places (k : WorkL) : List PlaceL := placesL k.bands
structure WorkL.Ok (k : WorkL) : Prop where
  sg : K33.Signs k.signs
  bs : BandsOk k.bands
  few : k.presses.length ≤ 8
  fit : ∀ r ∈ k.presses, FitsWork k.signs k.places r
theorem places_low {bs : List BandL} (h : ∀ b ∈ bs, b.Ok) : ∀ s ∈ placesL bs, Nm s.name := fun s hs => by
  obtain ⟨b, hb, h2⟩ := List.mem_flatMap.mp hs
  obtain ⟨i, _, rfl⟩ := List.mem_map.mp h2
  exact (h b hb).nm
theorem places_nd {bs : List BandL} (nd : (bs.map (·.name)).Nodup) : (placesL bs).Nodup := by
  induction bs with
  | nil => exact List.nodup_nil
  | cons b bs ih =>
    show (rangeP b b.long ++ placesL bs).Nodup
    obtain ⟨n1, n2⟩ := List.nodup_cons.mp (show (b.name :: bs.map (·.name)).Nodup from nd)
    refine List.nodup_append.mpr ⟨?_, ih n2, fun x hx y hy e => ?_⟩
    · unfold rangeP
      refine List.pairwise_map.mpr ((List.nodup_range (n := b.long)).imp fun {i j} ne z => ne ?_)
      exact congrArg PlaceL.at_ z
    · obtain ⟨i, _, rfl⟩ := List.mem_map.mp hx
      obtain ⟨c, hc, h2⟩ := List.mem_flatMap.mp hy
      obtain ⟨j, _, rfl⟩ := List.mem_map.mp h2
      exact n1 (List.mem_map.mpr ⟨c, hc, (congrArg PlaceL.name e).symm⟩)
def workF (signs : List Nat) (tb tp lp dn : Addr) : List (Str × V) := [("_signs", .str (tx signs)), ("_bands", .ref tb), ("_presses", .ref tp), ("_places", .ref lp), ("_numbers", .ref dn)]
theorem q_sb : ¬ (("_signs" : Str) = "_bands") := by decide +kernel
theorem q_sp : ¬ (("_signs" : Str) = "_presses") := by decide +kernel
theorem q_sl : ¬ (("_signs" : Str) = "_places") := by decide +kernel
theorem q_sn : ¬ (("_signs" : Str) = "_numbers") := by decide +kernel
theorem q_bp : ¬ (("_bands" : Str) = "_presses") := by decide +kernel
theorem q_bl : ¬ (("_bands" : Str) = "_places") := by decide +kernel
theorem q_bn : ¬ (("_bands" : Str) = "_numbers") := by decide +kernel
theorem q_pl : ¬ (("_presses" : Str) = "_places") := by decide +kernel
theorem q_pn : ¬ (("_presses" : Str) = "_numbers") := by decide +kernel
theorem q_ln : ¬ (("_places" : Str) = "_numbers") := by decide +kernel
theorem workF1 (g : List Nat) : putF "_signs" (.str (tx g)) [] = ([("_signs", .str (tx g))] : List (Str × V)) := rfl
theorem workF2 (g : List Nat) (tb : Addr) : putF "_bands" (.ref tb) ([("_signs", .str (tx g))] : List (Str × V)) = ([("_signs", .str (tx g)), ("_bands", .ref tb)] : List (Str × V)) := by
  rw [putF_cons, if_neg q_sb]
  rfl
theorem workF3 (g : List Nat) (tb tp : Addr) : putF "_presses" (.ref tp) ([("_signs", .str (tx g)), ("_bands", .ref tb)] : List (Str × V)) = ([("_signs", .str (tx g)), ("_bands", .ref tb), ("_presses", .ref tp)] : List (Str × V)) := by
  rw [putF_cons, if_neg q_sp, putF_cons, if_neg q_bp]
  rfl
theorem workF4 (g : List Nat) (tb tp lp : Addr) : putF "_places" (.ref lp) ([("_signs", .str (tx g)), ("_bands", .ref tb), ("_presses", .ref tp)] : List (Str × V)) = ([("_signs", .str (tx g)), ("_bands", .ref tb), ("_presses", .ref tp), ("_places", .ref lp)] : List (Str × V)) := by
  rw [putF_cons, if_neg q_sl, putF_cons, if_neg q_bl, putF_cons, if_neg q_pl]
  rfl
theorem workF5 (g : List Nat) (tb tp lp dn : Addr) : putF "_numbers" (.ref dn) ([("_signs", .str (tx g)), ("_bands", .ref tb), ("_presses", .ref tp), ("_places", .ref lp)] : List (Str × V)) = workF g tb tp lp dn := by
  rw [putF_cons, if_neg q_sn, putF_cons, if_neg q_bn, putF_cons, if_neg q_pn, putF_cons, if_neg q_ln]
  rfl
theorem workF_signs (g : List Nat) (tb tp lp dn : Addr) : (workF g tb tp lp dn).lookup ("_signs" : Str) = some (.str (tx g)) := by
  unfold workF
  rw [lk_cons, if_pos rfl]
theorem workF_bands (g : List Nat) (tb tp lp dn : Addr) : (workF g tb tp lp dn).lookup ("_bands" : Str) = some (.ref tb) := by
  unfold workF
  rw [lk_cons, if_neg (fun e => q_sb e.symm), lk_cons, if_pos rfl]
theorem workF_presses (g : List Nat) (tb tp lp dn : Addr) : (workF g tb tp lp dn).lookup ("_presses" : Str) = some (.ref tp) := by
  unfold workF
  rw [lk_cons, if_neg (fun e => q_sp e.symm), lk_cons, if_neg (fun e => q_bp e.symm), lk_cons, if_pos rfl]
theorem workF_places (g : List Nat) (tb tp lp dn : Addr) : (workF g tb tp lp dn).lookup ("_places" : Str) = some (.ref lp) := by
  unfold workF
  rw [lk_cons, if_neg (fun e => q_sl e.symm), lk_cons, if_neg (fun e => q_bl e.symm), lk_cons, if_neg (fun e => q_pl e.symm), lk_cons, if_pos rfl]
theorem workF_numbers (g : List Nat) (tb tp lp dn : Addr) : (workF g tb tp lp dn).lookup ("_numbers" : Str) = some (.ref dn) := by
  unfold workF
  rw [lk_cons, if_neg (fun e => q_sn e.symm), lk_cons, if_neg (fun e => q_bn e.symm), lk_cons, if_neg (fun e => q_pn e.symm), lk_cons, if_neg (fun e => q_ln e.symm), lk_cons, if_pos rfl]
theorem workF_no (g : List Nat) (tb tp lp dn : Addr) {m : Str} (h1 : ¬ m = "_signs") (h2 : ¬ m = "_bands") (h3 : ¬ m = "_presses") (h4 : ¬ m = "_places") (h5 : ¬ m = "_numbers") : (workF g tb tp lp dn).lookup m = none := by
  unfold workF
  rw [lk_cons, if_neg h1, lk_cons, if_neg h2, lk_cons, if_neg h3, lk_cons, if_neg h4, lk_cons, if_neg h5]
  rfl
/-- what a work's fields hold -/
structure WorkAt (CB CP : Addr) (H : Hp) (tb tp lp dn : Addr) (k : WorkL) : Prop where
  bs : ∃ ps : List Addr, H tb = some (.tup (ps.map V.ref)) ∧ AreBands CB H ps k.bands
  rs : ∃ m, H tp = some (.tup m) ∧ Presses CP H m k.presses
  ls : ∃ l, H lp = some (.lst l) ∧ Places H l k.places
  ns : H dn = some (.dT (numFrom k.places 0))
theorem WorkAt.same {CB CP tb tp lp dn : Addr} {H H' : Hp} {k : WorkL} (h : WorkAt CB CP H tb tp lp dn k) (s : Same H H') : WorkAt CB CP H' tb tp lp dn k := by
  obtain ⟨ps, e1, h1⟩ := h.bs
  obtain ⟨m, e2, h2⟩ := h.rs
  obtain ⟨l, e3, h3⟩ := h.ls
  exact ⟨⟨ps, s _ _ e1, h1.kn (Kn.of s)⟩, ⟨m, s _ _ e2, h2.imp (RPress.kn (Kn.of s))⟩, ⟨l, s _ _ e3, h3.imp (RPlace.kn (Kn.of s))⟩, s _ _ h.ns⟩
/-- a work stands at p -/
def IsWork (CW CB CP : Addr) (H : Hp) (p : Addr) (k : WorkL) : Prop := ∃ dx tb tp lp dn, H p = some (.ins CW dx (workF k.signs tb tp lp dn)) ∧ WorkAt CB CP H tb tp lp dn k
theorem IsWork.same {CW CB CP p : Addr} {H H' : Hp} {k : WorkL} (h : IsWork CW CB CP H p k) (s : Same H H') : IsWork CW CB CP H' p k := by
  obtain ⟨dx, tb, tp, lp, dn, e, z⟩ := h
  exact ⟨dx, tb, tp, lp, dn, s _ _ e, z.same s⟩
end K05
set_option Elab.async false
set_option linter.all false
set_option maxRecDepth 100000
set_option maxHeartbeats 2000000
/-! Works are made. -/
namespace K05
open PySem PySem.Spec PyProof.Rows L2 Bp
/-- what the top says of Work -/
structure WorkTxt (K : PySem.W.Frag) (mg : Str → Option Value) (C : Addr) : Prop where
  cl : Cls K C
  nS : NoAttr K C "_signs"
  nB : NoAttr K C "_bands"
  nR : NoAttr K C "_presses"
  nL : NoAttr K C "_places"
  nN : NoAttr K C "_numbers"
  gC : mg "Work" = some (.ref C)
section
variable {P : Program} {w : World} {K : PySem.W.Frag} {mg : Str → Option Value} {base : Heap} {C CB CP : Addr}
theorem sc_Work_init : FnScope ["self", "signs", "bands", "presses", "place", "number"] ["self", "signs", "bands", "presses"] (defScope s_Work_init) := ⟨rfl, rfl, rfl, by decide +kernel, rfl, by decide +kernel, by decide +kernel⟩
def sp_Work_init (C CB CP : Addr) : Sp := fun vs H Q _ => ∃ (p dx lb lq : Addr) (ps : List Addr) (m : List V) (k : WorkL), vs = [.ref p, .str (tx k.signs), .ref lb, .ref lq] ∧ k.Ok ∧ H lb = some (.lst (ps.map V.ref)) ∧ AreBands CB H ps k.bands ∧ H lq = some (.lst m) ∧ Presses CP H m k.presses ∧
  H p = some (.ins C dx []) ∧ ∀ H', IsWork C CB CP H' p k → (∀ c o, c ≠ p → H c = some o → H' c = some o) → Q .non H'
/-- all but what is at p stays -/
def But (p : Addr) (H H' : Hp) : Prop := ∀ c o, c ≠ p → H c = some o → H' c = some o
theorem But.of {p : Addr} {H H' : Hp} (s : Same H H') : But p H H' := fun c o _ e => s c o e
theorem But.trans {p : Addr} {H H1 H2 : Hp} (a : But p H H1) (b : But p H1 H2) : But p H H2 := fun c o n e => b c o n (a c o n e)
theorem But.put {p : Addr} {H : Hp} (o : HO) : But p H (upd H p o) := fun c u n e => by
  rw [upd_ne n]
  exact e
theorem But.bands {p dx : Addr} {H H' : Hp} {ps : List Addr} {bs : List BandL} (b : But p H H') (hp : H p = some (.ins C dx [])) (h : AreBands CB H ps bs) : AreBands CB H' ps bs :=
  ⟨h.1, fun i q x e1 e2 => by
    obtain ⟨d, e⟩ := h.2 i q x e1 e2
    refine ⟨d, b _ _ (fun z => ?_) e⟩
    rw [z, hp] at e
    cases e⟩
theorem But.presses {p dx : Addr} {H H' : Hp} {m : List V} {rs : List PressL} (b : But p H H') (hp : H p = some (.ins C dx [])) (h : Presses CP H m rs) : Presses CP H' m rs :=
  h.imp fun v r ⟨q, e, d, x, y, t, eq, pa⟩ => by
    have ne : ∀ {c : Addr} {xs : List V}, H c = some (.tup xs) → c ≠ p := fun ec z => by
      rw [z, hp] at ec
      cases ec
    refine ⟨q, e, d, x, y, t, b _ _ (fun z => ?_) eq, b _ _ (ne pa.ab) pa.ab, b _ _ (ne pa.be) pa.be, b _ _ (ne pa.tb) pa.tb⟩
    rw [z, hp] at eq
    cases eq
theorem But.places {p dx : Addr} {H H' : Hp} {fs : List (Str × V)} {l : List V} {pls : List PlaceL} (b : But p H H') (hp : H p = some (.ins C dx fs)) (h : Places H l pls) : Places H' l pls :=
  h.imp fun v s ⟨t, e, ht⟩ => by
    refine ⟨t, e, b _ _ (fun z => ?_) ht⟩
    rw [z] at ht
    have e2 : H p = some (.tup [.str (tx s.name), .int s.at_]) := ht
    rw [hp] at e2
    cases e2
theorem ok_Work_init {f : Addr} {fd : FuncData} {k : Nat} {dv : V} (B : Blt mg) (T : WorkTxt K mg C) (D1 : Def P w K mg base CX0 k "are_signs" s_are_signs ["thing"] sp_are_signs) (D2 : Def P w K mg base CX0 k "are_bands" s_are_bands ["thing"] (sp_are_bands CB))
    (D3 : Def P w K mg base CX0 k "are_presses" s_are_presses ["thing", "signs", "places"] (sp_are_presses CP)) (D4 : Def P w K mg base CX0 k "places_of" s_places_of ["bands"] (sp_places_of CB))
    (F : FD K "__init__" "Work.__init__" s_Work_init [dv] [] f fd) : FnOk P w K mg base CX0 (k + 1) f fd ["self", "signs", "bands", "presses"] (sp_Work_init C CB CP) := by
  obtain ⟨f1, fd1, F1, b1, g1, G1⟩ := D1.ex
  obtain ⟨f2, fd2, F2, b2, g2, G2⟩ := D2.ex
  obtain ⟨f3, fd3, F3, b3, g3, G3⟩ := D3.ex
  obtain ⟨f4, fd4, F4, b4, g4, G4⟩ := D4.ex
  refine F.ok sc_Work_init (fun vs H Q E h => ?_) (fun cdv A outer s H vs Q E hr h => ?_)
  · obtain ⟨p, dx, lb, lq, ps, m, k, rfl, _⟩ := h
    rfl
  · obtain ⟨p, dx, lb, lq, ps, m, k, rfl, ok, hb, ab, hq, pr, hp, q⟩ := h
    refine ⟨_, pss_cons (ps_if (pt_not (pt_val (pe_call G1 hr rfl g1 F1.kp b1 .nil pass0 (pa_cons (pv 1) pa_nil)))) (pss_one ps_never) pss_nil)
      (pss_cons (ps_if (pt_not (pt_val (pe_call G2 hr rfl g2 F2.kp b2 .nil pass0 (pa_cons (pv 2) pa_nil)))) (pss_one ps_never) pss_nil)
      (pss_cons (ps_if (pt_not (pt_val (pe_call G3 hr rfl g3 F3.kp b3 .nil pass0 (pa_cons (pv 3) (pa_cons (pv 1) (pa_cons (pe_call G4 hr rfl g4 F4.kp b4 .nil pass0 (pa_cons (pv 2) pa_nil)) pa_nil)))))) (pss_one ps_never) pss_nil)
      (pss_cons (ps_fld (pv 0) (pv 1) rfl)
      (pss_cons (ps_fld (pv 0) (pe_callTy call_tuple_of (by rfl) B.tuple (by decide +kernel) (pa_cons (pv 2) pa_nil)) rfl)
      (pss_cons (ps_fld (pv 0) (pe_callTy call_tuple_of (by rfl) B.tuple (by decide +kernel) (pa_cons (pv 3) pa_nil)) rfl)
      (pss_cons (ps_fld (pv 0) (pe_call G4 hr rfl g4 F4.kp b4 .nil pass0 (pa_cons (pv 2) pa_nil)) rfl)
      (pss_one (ps_fld (pv 0) (pe_dcT (hu_of hr) (own := [("place", 4), ("number", 5)]) (g := gTup K 2 (gCons (gName 5) (gCons (gName 4) gNil))) (tt := tYes) rfl sc_Work_init.nd (pi_enum (by rfl) B.enu (pa_cons (pe_fld (pv 0) rfl) pa_nil)) (blkOk_by (own := [("place", 4), ("number", 5)]) (N := ["self", "signs", "bands", "presses", "place", "number"]) (sc := defScope s_Work_init) (by decide +kernel))
        (fun _ _ _ _ _ => pg_tup rfl (pgs_cons (pg_name (i := 5) sc_Work_init.nd rfl (Or.inl rfl)) (pgs_cons (pg_name (i := 4) sc_Work_init.nd rfl (Or.inl rfl)) pgs_nil))) (fun _ _ _ _ _ => pts_nil) (fun _ _ _ _ _ => pv 4) (fun _ _ _ _ _ => pv 5)) rfl)))))))), ?_⟩
    have bok := ok.bs
    refine ⟨.str (tx k.signs), rfl, k.signs, rfl, ok.sg, fun H1 s1 => ⟨true, rfl, noOf rfl ?_⟩⟩
    refine ⟨.ref lb, rfl, lb, ps, k.bands, rfl, s1 _ _ hb, ab.kn (Kn.of s1), bok, fun H2 s2 => ⟨true, rfl, noOf rfl ?_⟩⟩
    have s12 := s1.trans s2
    refine ⟨.ref lq, rfl, .str (tx k.signs), rfl, .ref lb, rfl, lb, ps, k.bands, rfl, s12 _ _ hb, ab.kn (Kn.of s12), bok, fun D l H3 s3 nD hD pl => ?_⟩
    have s13 := s12.trans s3
    have sg4 := ok.sg.hi
    refine ⟨lq, D, k.signs, l, m, k.places, k.presses, rfl, sg4, s13 _ _ hq, hD, pl, (fun s hs => (places_low bok.each s hs).low), pr.imp (RPress.kn (Kn.of s13)), ok.few, ok.fit, fun H4 s4 => ⟨true, rfl, noOf rfl ?_⟩⟩
    have s14 := s13.trans s4
    refine ⟨.str (tx k.signs), rfl, .ref p, rfl, p, C, dx, _, rfl, s14 _ _ hp, T.cl, T.nS, (by show 0 < 1000; decide), ?_⟩
    rw [workF1]
    have pb : lb ≠ p := ne_of hb hp (by intro z; cases z)
    have pq : lq ≠ p := ne_of hq hp (by intro z; cases z)
    have bt5 : But p H (upd H4 p (.ins C dx [("_signs", .str (tx k.signs))])) := (But.of s14).trans (But.put _)
    refine ⟨.ref lb, rfl, lb, ps.map V.ref, rfl, .inl ⟨SqL.of (bt5 _ _ pb hb), fun tb ntb => ?_⟩⟩
    have p5 : p ≠ tb := ne_of_none upd_same ntb
    refine ⟨.ref p, rfl, p, C, dx, _, rfl, (by rw [upd_ne p5, upd_same]), T.cl, T.nB, (by show 1 < 1000; decide), ?_⟩
    rw [workF2]
    generalize hH7 : upd (upd (upd H4 p (.ins C dx [("_signs", .str (tx k.signs))])) tb (.tup (ps.map V.ref))) p (.ins C dx [("_signs", .str (tx k.signs)), ("_bands", .ref tb)]) = H7
    have bt7 : But p H H7 := by
      rw [← hH7]
      exact (bt5.trans (But.of (same_new ntb))).trans (But.put _)
    have at7 : H7 p = some (.ins C dx [("_signs", .str (tx k.signs)), ("_bands", .ref tb)]) := by rw [← hH7, upd_same]
    have tb7 : H7 tb = some (.tup (ps.map V.ref)) := by rw [← hH7, upd_ne p5.symm, upd_same]
    refine ⟨.ref lq, rfl, lq, m, rfl, .inl ⟨SqL.of (bt7 _ _ pq hq), fun tp ntp => ?_⟩⟩
    have p7 : p ≠ tp := ne_of_none at7 ntp
    refine ⟨.ref p, rfl, p, C, dx, _, rfl, (by rw [upd_ne p7]; exact at7), T.cl, T.nR, (by show 2 < 1000; decide), ?_⟩
    rw [workF3]
    generalize hH9 : upd (upd H7 tp (.tup m)) p (.ins C dx [("_signs", .str (tx k.signs)), ("_bands", .ref tb), ("_presses", .ref tp)]) = H9
    have bt79 : But p H7 H9 := by
      rw [← hH9]
      exact (But.of (same_new ntp)).trans (But.put _)
    have bt9 : But p H H9 := bt7.trans bt79
    have at9 : H9 p = some (.ins C dx [("_signs", .str (tx k.signs)), ("_bands", .ref tb), ("_presses", .ref tp)]) := by rw [← hH9, upd_same]
    have tp9 : H9 tp = some (.tup m) := by rw [← hH9, upd_ne p7.symm, upd_same]
    refine ⟨.ref lb, rfl, lb, ps, k.bands, rfl, bt9 _ _ pb hb, bt9.bands hp ab, bok, fun D2 l2 H10 s10 nD2 hD2 pl2 => ?_⟩
    have at10 := s10 _ _ at9
    have pD2 : D2 ≠ p := ne_of hD2 at10 (by intro z; cases z)
    refine ⟨.ref p, rfl, p, C, dx, _, rfl, at10, T.cl, T.nL, (by show 3 < 1000; decide), ?_⟩
    rw [workF4]
    generalize hH11 : upd H10 p (.ins C dx [("_signs", .str (tx k.signs)), ("_bands", .ref tb), ("_presses", .ref tp), ("_places", .ref D2)]) = H11
    have bt1011 : But p H10 H11 := by
      rw [← hH11]
      exact But.put _
    have at11 : H11 p = some (.ins C dx [("_signs", .str (tx k.signs)), ("_bands", .ref tb), ("_presses", .ref tp), ("_places", .ref D2)]) := by rw [← hH11, upd_same]
    have pl11 : Places H11 l2 k.places := bt1011.places at10 pl2
    have D11 : H11 D2 = some (.lst l2) := bt1011 _ _ pD2 hD2
    have look : ([("_signs", .str (tx k.signs)), ("_bands", .ref tb), ("_presses", .ref tp), ("_places", .ref D2)] : List (Str × V)).lookup ("_places" : Str) = some (.ref D2) := by
      rw [lk_cons, if_neg (fun e => q_sl e.symm), lk_cons, if_neg (fun e => q_bl e.symm), lk_cons, if_neg (fun e => q_pl e.symm), lk_cons, if_pos rfl]
    refine ⟨.ref p, rfl, p, C, dx, _, _, rfl, at11, T.cl, T.nL, look, D2, l2, rfl, SqL.of D11, fun dn ndn => ?_⟩
    have few : k.places.length ≤ 40 := by
      show (placesL k.bands).length ≤ 40
      rw [placesL_len]
      exact bok.all
    refine walk_w (walk_enum (K := K) (a := D2) (xs := l2)) (fun i H' => Same H11 H' ∧ H' dn = some (.dT (numFrom (k.places.take i) 0))) ⟨same_new ndn, by rw [upd_same]; rfl⟩ (fun i H' _ z => SqL.of (z.1 _ _ D11)) ?_ ?_
    · rintro i x H12 H13 hi ⟨sm, hdn⟩ ⟨t, x1, x2, rfl, nt, rfl, e1, e2⟩
      obtain rfl : V.int (i : Nat) = x1 := Option.some.inj e1
      obtain ⟨pl, ep, tq, rfl, ip⟩ := (pl11.imp (RPlace.kn (Kn.of sm))).at_ e2
      have dt : dn ≠ t := ne_of_none hdn nt
      have tt : tq ≠ t := ne_of_none ip nt
      refine ⟨t, _, rfl, SqT.of upd_same, rfl, _, _, rfl, _, _, rfl, rfl, rfl, yes_kept ?_⟩
      refine ⟨.ref tq, rfl, .int i, rfl, numFrom (k.places.take i) 0, keyOf pl, tq, rfl, ?_, ?_, ?_, ?_, ?_⟩
      · rw [upd_ne tt, keyOf_vals]
        exact ip
      · rw [upd_ne dt]
        exact hdn
      · rw [numFrom_len, List.length_take]
        exact small1000 (by omega)
      · exact fun b o eb => by
          rw [upd_ne (ne_of_none eb ndn), upd_ne (ne_of_none (sm _ _ eb) nt)]
          exact sm _ _ eb
      · have il : i < k.places.length := (List.getElem?_eq_some_iff.mp ep).1
        have new : pl ∉ k.places.take i := fun h => by
          obtain ⟨j, hj⟩ := List.mem_iff_getElem?.mp h
          rw [List.getElem?_take] at hj
          by_cases c : j < i
          · rw [if_pos c] at hj
            obtain ⟨a1, a2⟩ := List.getElem?_eq_some_iff.mp hj
            obtain ⟨b1, b2⟩ := List.getElem?_eq_some_iff.mp ep
            exact List.pairwise_iff_getElem.mp (places_nd bok.nd) j i a1 b1 c (a2.trans b2.symm)
          · rw [if_neg c] at hj
            cases hj
        have none_ : valV (numFrom (k.places.take i) 0) (keyOf pl) = none := by rw [numFrom_val, if_neg new]
        rw [upd_same, putK_new _ none_, List.take_add_one, ep]
        show _ = some (HO.dT (numFrom (k.places.take i ++ [pl]) 0))
        rw [numFrom_snoc, List.length_take, Nat.zero_add, Nat.min_eq_left (Nat.le_of_lt il)]
    · rintro H12 ⟨sm, hdn⟩
      rw [pl11.1, List.take_length] at hdn
      have at12 := sm _ _ at11
      refine ⟨.ref p, rfl, p, C, dx, _, rfl, at12, T.cl, T.nN, (by show 4 < 1000; decide), ?_⟩
      rw [workF5]
      have bt1112 : But p H11 (upd H12 p (.ins C dx (workF k.signs tb tp D2 dn))) := (But.of sm).trans (But.put _)
      have bt912 : But p H9 (upd H12 p (.ins C dx (workF k.signs tb tp D2 dn))) := ((But.of s10).trans bt1011).trans bt1112
      have btF := bt9.trans bt912
      have ptb : tb ≠ p := fun z => p5 z.symm
      have ptp : tp ≠ p := fun z => p7 z.symm
      have pdn : dn ≠ p := ne_of hdn at12 (by intro z; cases z)
      refine q _ ⟨dx, tb, tp, D2, dn, upd_same, ⟨ps, bt912 _ _ ptb (bt79 _ _ ptb tb7), btF.bands hp ab⟩, ⟨m, bt912 _ _ ptp tp9, btF.presses hp pr⟩, ⟨l2, bt1112 _ _ pD2 D11, bt1112.places at11 pl11⟩, ?_⟩ btF
      rw [upd_ne pdn]
      exact hdn
end
end K05
set_option Elab.async false
set_option linter.all false
set_option maxRecDepth 100000
set_option maxHeartbeats 2000000
/-! What works tell; where things come. -/
namespace K05
open PySem PySem.Spec PyProof.Rows L2 Bp
section
variable {P : Program} {w : World} {K : PySem.W.Frag} {mg : Str → Option Value} {base : Heap} {CW CB CP : Addr}
def sp_Work_bands (CW CB CP : Addr) : Sp := fun vs H Q _ => ∃ (p : Addr) (k : WorkL), vs = [.ref p] ∧ IsWork CW CB CP H p k ∧ ∀ l ps H', Same H H' → H' l = some (.lst (ps.map V.ref)) → AreBands CB H' ps k.bands → Q (.ref l) H'
def sp_Work_presses (CW CB CP : Addr) : Sp := fun vs H Q _ => ∃ (p : Addr) (k : WorkL), vs = [.ref p] ∧ IsWork CW CB CP H p k ∧ ∀ l m H', Same H H' → H' l = some (.lst m) → Presses CP H' m k.presses → Q (.ref l) H'
def sp_has_place (CW CB CP : Addr) : Sp := fun vs H Q _ => ∃ (p t : Addr) (k : WorkL) (s : PlaceL), vs = [.ref p, .ref t] ∧ IsWork CW CB CP H p k ∧ IsPlace H t s ∧ Nm s.name ∧ ∀ H', Same H H' → Q (.bl (decide (s ∈ k.places))) H'
def sp_place_in (CW CB CP : Addr) : Sp := fun vs H Q _ => ∃ (p t : Addr) (k : WorkL) (s : PlaceL), vs = [.ref p, .ref t] ∧ IsWork CW CB CP H p k ∧ IsPlace H t s ∧ Nm s.name ∧ s ∈ k.places ∧ ∀ H', Same H H' → Q (.int (k.places.idxOf s : Nat)) H'
def sp_has_press (CW CB CP : Addr) : Sp := fun vs H Q _ => ∃ (p : Addr) (k : WorkL) (i : Int), vs = [.ref p, .int i] ∧ IsWork CW CB CP H p k ∧ Q (.bl (decide (0 ≤ i ∧ i ≤ (k.presses.length : Int) - 1))) H
theorem ok_Work_bands {f : Addr} {fd : FuncData} {k : Nat} (B : Blt mg) (T : WorkTxt K mg CW) (F : Fun K "bands" "Work.bands" s_Work_bands f fd) : FnOk P w K mg base CX0 (k + 1) f fd ["self"] (sp_Work_bands CW CB CP) := by
  refine F.ok (N := ["self"]) ⟨rfl, rfl, rfl, by decide +kernel, rfl, by decide +kernel, by decide +kernel⟩ (fun vs H Q E h => ?_) (fun cdv A outer s H vs Q E hr h => ?_)
  · obtain ⟨p, k, rfl, _⟩ := h
    rfl
  · obtain ⟨p, k, rfl, ⟨dx, tb, tp, lp, dn, e, z⟩, q⟩ := h
    obtain ⟨ps, eb, ab⟩ := z.bs
    refine ⟨_, pss_one (ps_ret (pe_callTy call_list_of (by rfl) B.list (by decide +kernel) (pa_cons (pe_fld (pv 0) rfl) pa_nil))), ?_⟩
    exact ⟨.ref p, rfl, p, CW, dx, _, _, rfl, e, T.cl, T.nB, workF_bands _ _ _ _ _, tb, _, rfl, .inr (SqT.of eb), fun l nl => q l ps _ (same_new nl) upd_same (ab.kn (Kn.new nl))⟩
theorem ok_Work_presses {f : Addr} {fd : FuncData} {k : Nat} (B : Blt mg) (T : WorkTxt K mg CW) (F : Fun K "presses" "Work.presses" s_Work_presses f fd) : FnOk P w K mg base CX0 (k + 1) f fd ["self"] (sp_Work_presses CW CB CP) := by
  refine F.ok (N := ["self"]) ⟨rfl, rfl, rfl, by decide +kernel, rfl, by decide +kernel, by decide +kernel⟩ (fun vs H Q E h => ?_) (fun cdv A outer s H vs Q E hr h => ?_)
  · obtain ⟨p, k, rfl, _⟩ := h
    rfl
  · obtain ⟨p, k, rfl, ⟨dx, tb, tp, lp, dn, e, z⟩, q⟩ := h
    obtain ⟨m, em, pr⟩ := z.rs
    refine ⟨_, pss_one (ps_ret (pe_callTy call_list_of (by rfl) B.list (by decide +kernel) (pa_cons (pe_fld (pv 0) rfl) pa_nil))), ?_⟩
    exact ⟨.ref p, rfl, p, CW, dx, _, _, rfl, e, T.cl, T.nR, workF_presses _ _ _ _ _, tp, _, rfl, .inr (SqT.of em), fun l nl => q l m _ (same_new nl) upd_same (pr.imp (RPress.kn (Kn.new nl)))⟩
theorem ok_has_place {f : Addr} {fd : FuncData} {k : Nat} (T : WorkTxt K mg CW) (D : Def P w K mg base CX0 k "is_place" s_is_place ["thing"] sp_is_place) (F : Fun K "has_place" "Work.has_place" s_Work_has_place f fd) : FnOk P w K mg base CX0 (k + 1) f fd ["self", "thing"] (sp_has_place CW CB CP) := by
  obtain ⟨f1, fd1, F1, b1, g1, G1⟩ := D.ex
  refine F.ok (N := ["self", "thing"]) ⟨rfl, rfl, rfl, by decide +kernel, rfl, by decide +kernel, by decide +kernel⟩ (fun vs H Q E h => ?_) (fun cdv A outer s H vs Q E hr h => ?_)
  · obtain ⟨p, t, k, s, rfl, _⟩ := h
    rfl
  · obtain ⟨p, t, k, s, rfl, iw, ip, nm, q⟩ := h
    refine ⟨_, pss_one (ps_ret (pe_and (pe_call G1 hr rfl g1 F1.kp b1 .nil pass0 (pa_cons (pv 1) pa_nil)) (pe_one (pe_cmp (pc_din (hu_of hr) (pv 1) (pe_fld (pv 0) rfl)))))), ?_⟩
    refine ⟨.ref t, rfl, t, s.name, s.at_, rfl, ip, nm, fun H1 sm => ⟨true, rfl, iteT ?_⟩⟩
    obtain ⟨dx, tb, tp, lp, dn, e, z⟩ := iw.same sm
    have ip1 : IsPlace H1 t s := sm _ _ ip
    refine ⟨.ref t, rfl, .ref p, rfl, p, CW, dx, _, _, rfl, e, T.cl, T.nN, workF_numbers _ _ _ _ _, dn, _, rfl, DGet.t (k := keyOf s) z.ns (by rw [keyOf_vals]; exact ip1), ?_⟩
    have val := numFrom_val k.places s 0
    have q1 := q H1 sm
    by_cases m : s ∈ k.places
    · rw [if_pos m] at val
      rw [decide_eq_true m] at q1
      rw [val]
      exact q1
    · rw [if_neg m] at val
      rw [decide_eq_false m] at q1
      rw [val]
      exact q1
theorem ok_place_in {f fh : Addr} {fd fdh : FuncData} {k : Nat} (T : WorkTxt K mg CW) (mh : Meth K CW "has_place" fh) (bh : Binds K fdh ["self", "thing"] []) (Gh : FnOk P w K mg base CX0 k fh fdh ["self", "thing"] (sp_has_place CW CB CP))
    (F : Fun K "place_in" "Work.place_in" s_Work_place_in f fd) : FnOk P w K mg base CX0 (k + 1) f fd ["self", "place"] (sp_place_in CW CB CP) := by
  refine F.ok (N := ["self", "place"]) ⟨rfl, rfl, rfl, by decide +kernel, rfl, by decide +kernel, by decide +kernel⟩ (fun vs H Q E h => ?_) (fun cdv A outer s H vs Q E hr h => ?_)
  · obtain ⟨p, t, k, s, rfl, _⟩ := h
    rfl
  · obtain ⟨p, t, k, s, rfl, iw, ip, nm, m, q⟩ := h
    refine ⟨_, pss_cons (ps_if (pt_not (pt_val (pe_meth (pv 0) T.cl mh Gh hr bh .nil pass0 (pa_cons (pv 1) pa_nil)))) (pss_one ps_never) pss_nil) (pss_one (ps_ret (pe_dget (hu_of hr) (pe_fld (pv 0) rfl) (pv 1) (fun _ _ => rfl)))), ?_⟩
    obtain ⟨dx0, tb0, tp0, lp0, dn0, e0, z0⟩ := id iw
    refine ⟨.ref p, rfl, p, dx0, _, rfl, e0, workF_no _ _ _ _ _ (by decide +kernel) (by decide +kernel) (by decide +kernel) (by decide +kernel) (by decide +kernel), .ref t, rfl, p, t, k, s, rfl, iw, ip, nm, fun H1 sm => ⟨_, rfl, ?_⟩⟩
    refine noOf (by rw [decide_eq_true m]; rfl) ?_
    obtain ⟨dx, tb, tp, lp, dn, e, z⟩ := iw.same sm
    have ip1 : IsPlace H1 t s := sm _ _ ip
    have g := DGet.t (k := keyOf s) z.ns (by rw [keyOf_vals]; exact ip1)
    rw [numFrom_val, if_pos m, Nat.zero_add] at g
    exact ⟨.ref p, rfl, p, CW, dx, _, _, rfl, e, T.cl, T.nN, workF_numbers _ _ _ _ _, .ref t, rfl, dn, _, rfl, g, q H1 sm⟩
theorem ok_has_press {f : Addr} {fd : FuncData} {k : Nat} (B : Blt mg) (T : WorkTxt K mg CW) (D : Def P w K mg base CX0 k "is_within" s_is_within ["thing", "least", "most"] sp_is_within) (F : Fun K "has_press" "Work.has_press" s_Work_has_press f fd) : FnOk P w K mg base CX0 (k + 1) f fd ["self", "thing"] (sp_has_press CW CB CP) := by
  obtain ⟨f1, fd1, F1, b1, g1, G1⟩ := D.ex
  refine F.ok (N := ["self", "thing"]) ⟨rfl, rfl, rfl, by decide +kernel, rfl, by decide +kernel, by decide +kernel⟩ (fun vs H Q E h => ?_) (fun cdv A outer s H vs Q E hr h => ?_)
  · obtain ⟨p, k, i, rfl, _⟩ := h
    rfl
  · obtain ⟨p, k, i, rfl, ⟨dx, tb, tp, lp, dn, e, z⟩, q⟩ := h
    obtain ⟨m, em, pr⟩ := z.rs
    refine ⟨_, pss_one (ps_ret (pe_call G1 hr rfl g1 F1.kp b1 .nil pass0 (pa_cons (pv 1) (pa_cons pe_int (pa_cons (pe_op op_sub (pe_callB call_len (by rfl) B.len PySem.boot_len (pa_cons (pe_fld (pv 0) rfl) pa_nil)) pe_int) pa_nil))))), ?_⟩
    exact ⟨.int i, rfl, .ref p, rfl, p, CW, dx, _, _, rfl, e, T.cl, T.nR, workF_presses _ _ _ _ _, .ref tp, k.presses.length, rfl, .inr ⟨m, SqT.of em, pr.1.symm⟩, _, 1, rfl, rfl, i, 0, _, rfl, q⟩
end
end K05
set_option Elab.async false
set_option linter.all false
set_option maxRecDepth 100000
set_option maxHeartbeats 2000000
/-! Where things come. -/
namespace K05
open PySem PySem.Spec PyProof.Rows L2 Bp
/-- what Work's methods promise -/
structure WorkDefs (P : Program) (w : World) (K : PySem.W.Frag) (mg : Str → Option Value) (base : Heap) (CW CB CP : Addr) (k : Nat) : Prop where
  txt : WorkTxt K mg CW
  bands : ∃ f fd, Meth K CW "bands" f ∧ Binds K fd ["self"] [] ∧ FnOk P w K mg base CX0 k f fd ["self"] (sp_Work_bands CW CB CP)
  presses : ∃ f fd, Meth K CW "presses" f ∧ Binds K fd ["self"] [] ∧ FnOk P w K mg base CX0 k f fd ["self"] (sp_Work_presses CW CB CP)
  place_in : ∃ f fd, Meth K CW "place_in" f ∧ Binds K fd ["self", "place"] [] ∧ FnOk P w K mg base CX0 k f fd ["self", "place"] (sp_place_in CW CB CP)
  has_press : ∃ f fd, Meth K CW "has_press" f ∧ Binds K fd ["self", "thing"] [] ∧ FnOk P w K mg base CX0 k f fd ["self", "thing"] (sp_has_press CW CB CP)
theorem wno (g : List Nat) (tb tp lp dn : Addr) {m : Str} (h : (m ≠ "_signs" ∧ m ≠ "_bands" ∧ m ≠ "_presses" ∧ m ≠ "_places" ∧ m ≠ "_numbers")) : (workF g tb tp lp dn).lookup m = none := workF_no g tb tp lp dn h.1 h.2.1 h.2.2.1 h.2.2.2.1 h.2.2.2.2
theorem band_one {bs : List BandL} (nd : (bs.map (·.name)).Nodup) {i j : Nat} {a b : BandL} (ha : bs[i]? = some a) (hb : bs[j]? = some b) (e : a.name = b.name) : i = j := by
  obtain ⟨i1, i2⟩ := List.getElem?_eq_some_iff.mp ha
  obtain ⟨j1, j2⟩ := List.getElem?_eq_some_iff.mp hb
  have pw := List.pairwise_iff_getElem.mp nd
  rcases Nat.lt_trichotomy i j with z | z | z
  · exact absurd (by rw [List.getElem_map, List.getElem_map, i2, j2]; exact e) (pw i j (by rw [List.length_map]; exact i1) (by rw [List.length_map]; exact j1) z)
  · exact z
  · exact absurd (by rw [List.getElem_map, List.getElem_map, i2, j2]; exact e.symm) (pw j i (by rw [List.length_map]; exact j1) (by rw [List.length_map]; exact i1) z)
section
variable {P : Program} {w : World} {K : PySem.W.Frag} {mg : Str → Option Value} {base : Heap} {CW CB CP : Addr}
theorem sc_band_called : FnScope ["work", "name", "band"] ["work", "name"] (defScope s_band_called) := ⟨rfl, rfl, rfl, by decide +kernel, rfl, by decide +kernel, by decide +kernel⟩
def sp_band_called (CW CB CP : Addr) : Sp := fun vs H Q _ => ∃ (p : Addr) (k : WorkL) (b : BandL), vs = [.ref p, .str (tx b.name)] ∧ IsWork CW CB CP H p k ∧ BandsOk k.bands ∧ b ∈ k.bands ∧ ∀ q H', Same H H' → IsBand CB H' q b → Q (.ref q) H'
theorem ok_band_called {f : Addr} {fd : FuncData} {k : Nat} (T : WorkDefs P w K mg base CW CB CP k) (TB : BandDefs P w K mg base CB k) (F : Fun K "band_called" "band_called" s_band_called f fd) : FnOk P w K mg base CX0 (k + 1) f fd ["work", "name"] (sp_band_called CW CB CP) := by
  obtain ⟨fb, fdb, mb, bb, Gb⟩ := T.bands
  obtain ⟨fc, fdc, mc, bc, Gc⟩ := TB.called
  refine F.ok sc_band_called (fun vs H Q E h => ?_) (fun cdv A outer s H vs Q E hr h => ?_)
  · obtain ⟨p, k, b, rfl, _⟩ := h
    rfl
  · obtain ⟨p, k, b, rfl, iw, ok, hb, q⟩ := h
    refine ⟨_, pss_one (ps_ret (pe_ix ix_list (pe_lc (own := [("band", 2)]) (g := gName 2) rfl sc_band_called.nd (pi_list (pe_meth0 (pv 0) T.txt.cl mb Gb hr bb .nil pass0)) (blkOk_by (own := [("band", 2)]) (N := ["work", "name", "band"]) (sc := defScope s_band_called) (by decide +kernel))
      (fun _ _ _ _ _ => pg_name (i := 2) sc_band_called.nd rfl (Or.inl rfl)) (fun _ _ _ _ _ => pts_one (pt_cmpR op_eq (pe_meth0 (pv 2) TB.txt.cl mc Gc hr bc .nil pass0) (pv 1) (nomark _))) (fun _ _ _ _ _ => pv 2)) pe_int (fun _ _ => rfl))), ?_⟩
    obtain ⟨dx, tb, tp, lp, dn, e, z⟩ := id iw
    refine ⟨.ref p, rfl, p, dx, _, rfl, e, wno _ _ _ _ _ (by decide +kernel), p, k, rfl, iw, fun l ps H1 s1 hl ar => ?_⟩
    obtain ⟨j0, hj0⟩ := List.mem_iff_getElem?.mp hb
    have jl : j0 < ps.length := by
      rw [ar.1]
      exact (List.getElem?_eq_some_iff.mp hj0).1
    have hi6 := ok.hi
    refine ⟨l, rfl, ⟨_, SqL.of hl⟩, fun D nD => ?_⟩
    refine lc_v (H := H1) (walk_list (K := K) (a := l) (xs := ps.map V.ref)) (fun H2 sm => SqL.of (sm _ _ hl)) (fun i _ r => r = if j0 < i then [V.ref ps[j0]] else []) (fun _ => by rw [if_neg (Nat.not_lt_zero _)]) (fun i _ r _ e => ?_) (fun _ _ _ _ _ e => e) nD ?_ ?_
    · rw [e]
      split
      · show 1 ≤ 1000
        decide
      · show 0 ≤ 1000
        decide
    · rintro i x H2 H3 r Qy Qn hi sm hr2 ⟨rfl, hx⟩ qy qn
      obtain ⟨p2, b2, rfl, ep, eb, dx2, e2⟩ := (ar.kn (Kn.of sm)).at_ hx
      refine ⟨rfl, .ref p2, rfl, p2, dx2, _, rfl, e2, no_called b2, p2, b2, rfl, ⟨dx2, e2⟩, .str (tx b.name), rfl, rfl, _, rfl, ?_⟩
      by_cases c : b2.name = b.name
      · obtain rfl : i = j0 := band_one ok.nd eb hj0 c
        refine yesOf (decide_eq_true (by rw [c])) ?_
        refine ⟨.ref p2, rfl, qy _ _ (Same.refl _) ?_⟩
        rw [hr2, if_neg (Nat.lt_irrefl _), if_pos (Nat.lt_succ_self _)]
        obtain ⟨_, e3⟩ := List.getElem?_eq_some_iff.mp ep
        rw [e3]
        rfl
      · have ne : i ≠ j0 := fun z => by
          rw [z, hj0] at eb
          cases eb
          exact c rfl
        refine noOf (decide_eq_false (fun z => c (tx_inj (V.str.inj z)))) ?_
        refine qn _ (Same.refl _) ?_
        rw [hr2]
        by_cases lt : j0 < i
        · rw [if_pos lt, if_pos (by omega)]
        · rw [if_neg lt, if_neg (by omega)]
    · intro H2 r s2 hr2 hD
      have all : j0 < (ps.map V.ref).length := by
        rw [List.length_map]
        exact jl
      rw [hr2, if_pos all] at hD
      have ib := (ar.kn (Kn.of s2)).2 j0 ps[j0] b (List.getElem?_eq_getElem jl) hj0
      exact ⟨D, _, 0, _, rfl, rfl, SqL.of hD, atI_nat (j := 0) rfl, q _ H2 (s1.trans s2) ib⟩
/-! ### where -/
theorem sc_where : FnScope ["work", "place", "beats", "name", "number", "band"] ["work", "place", "beats"] (defScope s_where) := ⟨rfl, rfl, rfl, by decide +kernel, rfl, by decide +kernel, by decide +kernel⟩
/-- where a thing of the band b comes -/
def goL (b : BandL) (s : PlaceL) (n : Int) : PlaceL := ⟨s.name, (((s.at_ : Int) + b.pace * n) % (b.long : Int)).toNat⟩
def sp_where (CW CB CP : Addr) : Sp := fun vs H Q _ => ∃ (p t : Addr) (k : WorkL) (s : PlaceL) (b : BandL) (n : Int), vs = [.ref p, .ref t, .int n] ∧ IsWork CW CB CP H p k ∧ BandsOk k.bands ∧ IsPlace H t s ∧ s ∈ k.places ∧ b ∈ k.bands ∧ b.name = s.name ∧ ∀ r H', Same H H' → IsPlace H' r (goL b s n) → Q (.ref r) H'
theorem ok_where {f : Addr} {fd : FuncData} {k : Nat} (T : WorkDefs P w K mg base CW CB CP k) (TB : BandDefs P w K mg base CB k) (D : Def P w K mg base CX0 k "band_called" s_band_called ["work", "name"] (sp_band_called CW CB CP)) (F : Fun K "where" "where" s_where f fd) : FnOk P w K mg base CX0 (k + 1) f fd ["work", "place", "beats"] (sp_where CW CB CP) := by
  obtain ⟨fi, fdi, mi, bi, Gi⟩ := T.place_in
  obtain ⟨fl, fdl, ml, bl, Gl⟩ := TB.long
  obtain ⟨fp, fdp, mp, bp, Gp⟩ := TB.pace
  obtain ⟨f1, fd1, F1, b1, g1, G1⟩ := D.ex
  refine F.ok sc_where (fun vs H Q E h => ?_) (fun cdv A outer s H vs Q E hr h => ?_)
  · obtain ⟨p, t, k, s, b, n, rfl, _⟩ := h
    rfl
  · obtain ⟨p, t, k, s, b, n, rfl, iw, ok, ip, hs, hb, en, q⟩ := h
    refine ⟨_, pss_cons (ps_expr (pe_meth (pv 0) T.txt.cl mi Gi hr bi .nil pass0 (pa_cons (pv 1) pa_nil)))
      (pss_cons (ps_asg (pv 1) (pg_tup rfl (pgs_cons (pg_name (i := 3) sc_where.nd rfl (.inl rfl)) (pgs_cons (pg_name (i := 4) sc_where.nd rfl (.inl rfl)) pgs_nil))))
      (pss_cons (ps_set (i := 5) sc_where.nd rfl (.inl rfl) (pe_call G1 hr rfl g1 F1.kp b1 .nil pass0 (pa_cons (pv 0) (pa_cons (pv 3) pa_nil))))
      (pss_one (ps_ret (pe_tup (pa_cons (pv 3) (pa_cons (pe_op op_mod (pe_op op_add (pv 4) (pe_op op_mul (pe_meth0 (pv 5) TB.txt.cl mp Gp hr bp .nil pass0) (pv 2))) (pe_meth0 (pv 5) TB.txt.cl ml Gl hr bl .nil pass0)) pa_nil))))))), ?_⟩
    have okb := ok.each b hb
    have lo := okb.lo
    have p1 := okb.p1
    have p2 := okb.p2
    obtain ⟨dx, tb, tp, lp, dn, e, z⟩ := id iw
    refine ⟨.ref p, rfl, p, dx, _, rfl, e, wno _ _ _ _ _ (by decide +kernel), .ref t, rfl, p, t, k, s, rfl, iw, ip, places_low ok.each s hs, hs, fun H1 s1 => ?_⟩
    have ip1 : IsPlace H1 t s := s1 _ _ ip
    refine ⟨.ref t, rfl, t, _, rfl, SqT.of ip1, rfl, _, _, rfl, _, _, rfl, rfl, ?_⟩
    refine ⟨.ref p, rfl, .str (tx s.name), rfl, p, k, b, by rw [en]; rfl, iw.same s1, ok, hb, fun r H2 s2 ib => ?_⟩
    obtain ⟨dx2, e2⟩ := id ib
    refine ⟨.str (tx s.name), rfl, .int s.at_, rfl, .ref r, rfl, r, dx2, _, rfl, e2, no_pace b, r, b, rfl, ib, .int n, rfl, b.pace, n, rfl, rfl, .inl ⟨by omega, by omega⟩, _, _, rfl, rfl, .ref r, rfl, r, dx2, _, rfl, e2, no_long b, r, b, rfl, ib, _, b.long, rfl, rfl, (by show (0 : Int) < (b.long : Int); omega), (by show 2 ≤ sizeLine; decide), fun u nu => ?_⟩
    refine q u _ ((s1.trans s2).trans (same_new nu)) ?_
    show upd H2 u _ u = some (.tup [.str (tx s.name), .int (((((s.at_ : Int) + b.pace * n) % (b.long : Int)).toNat : Nat) : Int)])
    rw [upd_same, Int.toNat_of_nonneg (Int.emod_nonneg _ (by omega))]
end
end K05
set_option Elab.async false
set_option linter.all false
set_option maxRecDepth 100000
set_option maxHeartbeats 2000000
/-! Passes. -/
namespace K05
open PySem PySem.Spec PyProof.Rows L2 Bp
def rLcm : List V → Hp → VK → Prop := fun vs H Q => ∃ a b : Nat, vs = [.int a, .int b] ∧ 0 < a ∧ a ≤ 100 ∧ 0 < b ∧ b ≤ 100 ∧ Q (.int (Nat.lcm a b : Nat)) H
theorem cr_lcm {X : Cx} : CallR X (.builtin "math.lcm") rLcm := by
  intro pins s σ H vs us Q I r h
  obtain ⟨a, b, rfl, a0, a1, b0, b1, q⟩ := h
  obtain ⟨t, u, rfl⟩ := Vals.int2 r
  have e : (((Nat.lcm 1 (a : Int).natAbs).lcm (b : Int).natAbs : Nat) : Int) = ((Nat.lcm a b : Nat) : Int) := by
    rw [Int.natAbs_natCast, Int.natAbs_natCast, Nat.lcm_one_left]
  have le : Nat.lcm a b ≤ 100 * 100 := Nat.le_trans (Nat.le_of_dvd (Nat.mul_pos a0 b0) (Nat.lcm_dvd_mul a b)) (Nat.mul_le_mul a1 b1)
  have few : ((Nat.lcm a b : Nat) : Int).natAbs.log2 < 20 := PySem.Flt.log2_lt_of (by decide) (by rw [Int.natAbs_natCast]; omega)
  exact PySem.W.mg_lcm_v (by omega) (by omega) e (Nat.lt_trans few (by decide)) ⟨.int _, H, I.tok _, ⟨_, rfl⟩, q⟩
/-- the sides -/
def sideT (up : Bool) : Str := if up then "above" else "below"
def PressL.stop (r : PressL) (up : Bool) : PlaceL := if up then r.above else r.below
section
variable {P : Program} {w : World} {K : PySem.W.Frag} {mg : Str → Option Value} {base : Heap} {CW CB CP : Addr}
def sp_side_of (CP : Addr) : Sp := fun vs H Q _ => ∃ (p : Addr) (r : PressL) (up : Bool), vs = [.ref p, .str (sideT up)] ∧ IsPress CP H p r ∧ ∀ t, IsPlace H t (r.stop up) → Q (.ref t) H
theorem ok_side_of {f : Addr} {fd : FuncData} {k : Nat} (T : PressDefs P w K mg base CP k) (F : Fun K "side_of" "side_of" s_side_of f fd) : FnOk P w K mg base CX0 (k + 1) f fd ["press", "side"] (sp_side_of CP) := by
  obtain ⟨fa, fda, ma, ba, Ga⟩ := T.above
  obtain ⟨fb, fdb, mb, bb, Gb⟩ := T.below
  refine F.ok (N := ["press", "side"]) ⟨rfl, rfl, rfl, by decide +kernel, rfl, by decide +kernel, by decide +kernel⟩ (fun vs H Q E h => ?_) (fun cdv A outer s H vs Q E hr h => ?_)
  · obtain ⟨p, r, up, rfl, _⟩ := h
    rfl
  · obtain ⟨p, r, up, rfl, ip, q⟩ := h
    refine ⟨_, pss_cons (ps_if (pt_cmpR op_eq (pv 1) pe_str (nomark _)) (pss_one (ps_ret (pe_meth0 (pv 0) T.txt.cl ma Ga hr ba .nil pass0))) pss_nil)
      (pss_cons (ps_if (pt_cmpR op_eq (pv 1) pe_str (nomark _)) (pss_one (ps_ret (pe_meth0 (pv 0) T.txt.cl mb Gb hr bb .nil pass0))) pss_nil) (pss_one ps_never)), ?_⟩
    obtain ⟨dx, a, b, t, e, pa⟩ := id ip
    refine ⟨.str (sideT up), rfl, rfl, _, rfl, ?_⟩
    cases up with
    | true =>
      refine yesOf (decide_eq_true rfl) ?_
      exact ⟨.ref p, rfl, p, dx, _, rfl, e, no_above _ _ _ _, p, r, rfl, ip, fun a1 ha => q a1 ha⟩
    | false =>
      refine noOf (decide_eq_false (by intro z; exact absurd (V.str.inj z) (by decide +kernel))) ?_
      refine ⟨.str (sideT false), rfl, rfl, _, rfl, yesOf (decide_eq_true rfl) ?_⟩
      exact ⟨.ref p, rfl, p, dx, _, rfl, e, no_below _ _ _ _, p, r, rfl, ip, fun a1 ha => q a1 ha⟩
theorem eqv_place (a b : PlaceL) : PyData.eqv (placeD a) (placeD b) = decide (a = b) := by
  unfold placeD
  rw [PyData.eqv, PyData.eqvAll, PyData.eqvAll, PyData.eqvAll, PyData.eqv, PyData.eqv]
  by_cases h : a = b
  · subst h
    rw [decide_eq_true rfl, beq_self_eq_true]
    simp
  · rw [decide_eq_false h]
    by_cases n : a.name = b.name
    · have m : ¬ a.at_ = b.at_ := fun m => h (PlaceL.ext n m)
      have : ((a.at_ : Int) == (b.at_ : Int)) = false := beq_eq_false_iff_ne.mpr fun e => m (Int.ofNat.inj e)
      simp [this]
    · have : (tx a.name == tx b.name) = false := beq_eq_false_iff_ne.mpr fun e => n (tx_inj e)
      rw [this]
      rfl
/-! ### passes -/
/-- behind i + 1 beats what the press prints on is there -/
def passB (b : BandL) (r : PressL) (up : Bool) (s : PlaceL) (i : Nat) : Bool := decide (r.rhythm.getD (i % r.rhythm.length) 0 = 120 ∧ goL b s (1 + (i : Int)) = r.stop up)
def restsL (b : BandL) (r : PressL) (up : Bool) (s : PlaceL) (n : Nat) : List Int := ((List.range n).filter (passB b r up s)).map fun i : Nat => 1 + (i : Int)
theorem restsL_succ (b : BandL) (r : PressL) (up : Bool) (s : PlaceL) (n : Nat) : restsL b r up s (n + 1) = if passB b r up s n = true then restsL b r up s n ++ [1 + (n : Int)] else restsL b r up s n := by
  unfold restsL
  rw [List.range_succ, List.filter_append]
  by_cases h : passB b r up s n = true
  · rw [if_pos h, List.map_append]
    simp [h]
  · rw [if_neg h]
    simp [h]
theorem restsL_few (b : BandL) (r : PressL) (up : Bool) (s : PlaceL) (n : Nat) : (restsL b r up s n).length ≤ n := by
  unfold restsL
  rw [List.length_map]
  refine Nat.le_trans (List.length_filter_le _ _) ?_
  rw [List.length_range]
  exact Nat.le_refl _
def commonL (b : BandL) (r : PressL) : Nat := Nat.lcm b.long r.rhythm.length
theorem sc_passes : FnScope ["work", "press", "side", "place", "stop", "rhythm", "common", "rests", "beat"] ["work", "press", "side", "place"] (defScope s_passes) := ⟨rfl, rfl, rfl, by decide +kernel, rfl, by decide +kernel, by decide +kernel⟩
abbrev NsP : List Str := ["work", "press", "side", "place", "stop", "rhythm", "common", "rests", "beat"]
def sp_passes (CW CB CP : Addr) : Sp := fun vs H Q _ => ∃ (p t : Addr) (k : WorkL) (i : Nat) (r : PressL) (up : Bool) (s : PlaceL) (b : BandL), vs = [.ref p, .int i, .str (sideT up), .ref t] ∧ IsWork CW CB CP H p k ∧ k.Ok ∧ k.presses[i]? = some r ∧ IsPlace H t s ∧ s ∈ k.places ∧ b ∈ k.bands ∧ b.name = s.name ∧
  ∀ T l H', Same H H' → H' T = some (.tup [.int (commonL b r : Nat), .ref l]) → H' l = some (.lst ((restsL b r up s (commonL b r)).map V.int)) → Q (.ref T) H'
theorem ok_passes {f : Addr} {fd : FuncData} {k : Nat} (B : Blt mg) (gl : mg "lcm" = some (.builtin "math.lcm")) (T : WorkDefs P w K mg base CW CB CP k) (TB : BandDefs P w K mg base CB k) (TP : PressDefs P w K mg base CP k)
    (D1 : Def P w K mg base CX0 k "side_of" s_side_of ["press", "side"] (sp_side_of CP)) (D2 : Def P w K mg base CX0 k "band_called" s_band_called ["work", "name"] (sp_band_called CW CB CP)) (D3 : Def P w K mg base CX0 k "where" s_where ["work", "place", "beats"] (sp_where CW CB CP))
    (F : Fun K "passes" "passes" s_passes f fd) : FnOk P w K mg base CX0 (k + 1) f fd ["work", "press", "side", "place"] (sp_passes CW CB CP) := by
  obtain ⟨fh, fdh, mh, bh, Gh⟩ := T.has_press
  obtain ⟨fr, fdr, mr, br, Gr⟩ := T.presses
  obtain ⟨fi, fdi, mi, bi, Gi⟩ := T.place_in
  obtain ⟨fy, fdy, my, byy, Gy⟩ := TP.rhythm
  obtain ⟨fl, fdl, ml, bl, Gl⟩ := TB.long
  obtain ⟨f1, fd1, F1, b1, g1, G1⟩ := D1.ex
  obtain ⟨f2, fd2, F2, b2, g2, G2⟩ := D2.ex
  obtain ⟨f3, fd3, F3, b3, g3, G3⟩ := D3.ex
  refine F.ok sc_passes (fun vs H Q E h => ?_) (fun cdv A outer sh H vs Q E hr h => ?_)
  · obtain ⟨p, t, k, i, r, up, s, b, rfl, _⟩ := h
    rfl
  · obtain ⟨p, t, k, i, r, up, s, b, rfl, iw, ok, er, ip, hs, hb, en, q⟩ := h
    have hu64 : A.units + 3 + 64 < cLine := hr.units
    refine ⟨_, pss_cons (ps_if (pt_not (pt_val (pe_meth (pv 0) T.txt.cl mh Gh hr bh .nil pass0 (pa_cons (pv 1) pa_nil)))) (pss_one ps_never) pss_nil)
      (pss_cons (ps_set (i := 4) sc_passes.nd rfl (.inr rfl) (pe_call G1 hr rfl g1 F1.kp b1 .nil pass0 (pa_cons (pe_ix ix_list (pe_meth0 (pv 0) T.txt.cl mr Gr hr br .nil pass0) (pv 1) (fun _ _ => rfl)) (pa_cons (pv 2) pa_nil))))
      (pss_cons (ps_expr (pe_meth (pv 0) T.txt.cl mi Gi hr bi .nil pass0 (pa_cons (pv 3) pa_nil)))
      (pss_cons (ps_set (i := 5) sc_passes.nd rfl (.inr rfl) (pe_meth0 (pe_ix ix_list (pe_meth0 (pv 0) T.txt.cl mr Gr hr br .nil pass0) (pv 1) (fun _ _ => rfl)) TP.txt.cl my Gy hr byy .nil pass0))
      (pss_cons (ps_set (i := 6) sc_passes.nd rfl (.inl rfl) (pe_callBfun cr_lcm (by rfl) gl (pa_cons (pe_meth0 (pe_call G2 hr rfl g2 F2.kp b2 .nil pass0 (pa_cons (pv 0) (pa_cons (pe_ix ix_tup (pv 3) pe_int (fun _ _ => rfl)) pa_nil))) TB.txt.cl ml Gl hr bl .nil pass0) (pa_cons (pe_callB call_len (by rfl) B.len PySem.boot_len (pa_cons (pv 5) pa_nil)) pa_nil))))
      (pss_cons (ps_setLc (i := 7) (own := [("beat", 8)]) (g := gName 8) rfl sc_passes.nd rfl rfl (by rfl) (pi_range2 (by rfl) B.rng (pa_cons pe_int (pa_cons (pe_op op_add (pv 6) pe_int) pa_nil))) (blkOk_by (own := [("beat", 8)]) (N := NsP) (sc := defScope s_passes) (by decide +kernel))
        (fun _ _ _ _ _ => pg_name (i := 8) sc_passes.nd rfl (Or.inl rfl))
        (fun _ _ _ _ _ => pts_one (PW.pt (pw_and (pt_cmpR op_eq (pe_ix ix_str (pv 5) (pe_op op_mod (pe_op op_sub (pv 8) pe_int) (pe_callB call_len_str (by rfl) B.len PySem.boot_len (pa_cons (pv 5) pa_nil))) (fun _ _ => rfl)) pe_str (nomark _))
          (pw_and1 (pt_cmpR (show OpR _ (compareOp .Eq) (rEqD K) from op_eqD hu64) (pe_call G3 hr rfl g3 F3.kp b3 .nil pass0 (pa_cons (pv 0) (pa_cons (pv 3) (pa_cons (pv 8) pa_nil)))) (pv 4) (nomark _)))))) (fun _ _ _ _ _ => pv 8))
      (pss_one (ps_ret (pe_tup (pa_cons (pv 6) (pa_cons (pv 7) pa_nil)))))))))), ?_⟩
    obtain ⟨dx, tb, tp, lp, dn, e, z⟩ := id iw
    have il : i < k.presses.length := (List.getElem?_eq_some_iff.mp er).1
    have few8 := ok.few
    have fw := ok.fit r (List.mem_of_getElem? er)
    have rlo := fw.ok.rh.lo
    have rhi := fw.ok.rh.hi
    have okb := ok.bs.each b hb
    have blo := okb.lo
    have bhi := okb.hi
    have low := places_low ok.bs.each
    have cl : commonL b r ≤ 100 := by
      unfold commonL
      have : Nat.lcm b.long r.rhythm.length ≤ b.long * r.rhythm.length := Nat.le_of_dvd (Nat.mul_pos (by omega) (by omega)) (Nat.lcm_dvd_mul _ _)
      have m : b.long * r.rhythm.length ≤ 12 * 6 := Nat.mul_le_mul bhi rhi
      omega
    refine ⟨.ref p, rfl, p, dx, _, rfl, e, wno _ _ _ _ _ (by decide +kernel), .int i, rfl, p, k, i, rfl, iw, _, rfl, ?_⟩
    refine noOf (by rw [decide_eq_true (show (0 : Int) ≤ (i : Int) ∧ (i : Int) ≤ (k.presses.length : Int) - 1 by omega)]; rfl) ?_
    -- stop
    refine ⟨.ref p, rfl, p, dx, _, rfl, e, wno _ _ _ _ _ (by decide +kernel), p, k, rfl, iw, fun l1 m1 H1 s1 hl1 pr1 => ?_⟩
    obtain ⟨v1, ev1, q1, rfl, iq1⟩ := pr1.of er
    refine ⟨.int i, rfl, l1, _, _, _, rfl, rfl, SqL.of hl1, atI_nat ev1, .str (sideT up), rfl, q1, r, up, rfl, iq1, fun t1 hst1 => ?_⟩
    -- place_in
    obtain ⟨dx1, tb1, tp1, lp1, dn1, e1, z1⟩ := iw.same s1
    have ip1 : IsPlace H1 t s := s1 _ _ ip
    refine ⟨.ref p, rfl, p, dx1, _, rfl, e1, wno _ _ _ _ _ (by decide +kernel), .ref t, rfl, p, t, k, s, rfl, iw.same s1, ip1, low s hs, hs, fun H2 s2 => ?_⟩
    have s12 := s1.trans s2
    obtain ⟨dx2, tb2, tp2, lp2, dn2, e2, z2⟩ := iw.same s12
    -- rhythm
    refine ⟨.ref p, rfl, p, dx2, _, rfl, e2, wno _ _ _ _ _ (by decide +kernel), p, k, rfl, iw.same s12, fun l3 m3 H3 s3 hl3 pr3 => ?_⟩
    obtain ⟨v3, ev3, q3, rfl, iq3⟩ := pr3.of er
    obtain ⟨dx4, a4, b4, t4, e4, pa4⟩ := id iq3
    refine ⟨.int i, rfl, l3, _, _, _, rfl, rfl, SqL.of hl3, atI_nat ev3, q3, dx4, _, rfl, e4, no_rhythm _ _ _ _, q3, r, rfl, iq3, ?_⟩
    have s13 := s12.trans s3
    have ip3 : IsPlace H3 t s := s13 _ _ ip
    have st3 : IsPlace H3 t1 (r.stop up) := (s2.trans s3) _ _ hst1
    -- common
    refine ⟨.ref p, rfl, .ref t, rfl, t, _, 0, _, rfl, rfl, SqT.of ip3, atI_nat (j := 0) rfl, p, k, b, by rw [en]; rfl, iw.same s13, ok.bs, hb, fun q5 H5 s5 ib5 => ?_⟩
    obtain ⟨dx5, e5⟩ := id ib5
    refine ⟨q5, dx5, _, rfl, e5, no_long b, q5, b, rfl, ib5, .str (tx r.rhythm), rfl, .str (tx r.rhythm), r.rhythm.length, rfl, ⟨fit_tx (by omega), (tx_len _).symm⟩, b.long, r.rhythm.length, rfl, by omega, by omega, by omega, by omega, ?_⟩
    have s15 := s13.trans s5
    have ip5 : IsPlace H5 t s := s15 _ _ ip
    have st5 : IsPlace H5 t1 (r.stop up) := s5 _ _ st3
    have iw5 := iw.same s15
    -- rests
    refine ⟨.int (commonL b r : Nat), rfl, _, 1, rfl, rfl, 1, _, rfl, ⟨by decide, by decide, by omega, by omega⟩, fun D nD => ?_⟩
    have tn : (((commonL b r : Nat) : Int) + 1 - 1).toNat = commonL b r := by omega
    show ∃ W : Nat → Nat → Hp → Prop, _ ∧ _
    rw [tn]
    have stopLow : Low (r.stop up).name := by
      cases up with
      | true => exact fw.ok.a1.low
      | false => exact fw.ok.b1.low
    refine lc_v (H := H5) (walk_range (lo := 1) (n := commonL b r)) (fun _ _ => trivial) (fun j _ l => l = (restsL b r up s j).map V.int) (fun _ => rfl) (fun j _ l hj e => ?_) (fun _ _ _ _ _ e => e) nD ?_ ?_
    · rw [e, List.length_map]
      have := restsL_few b r up s j
      omega
    · rintro j x H6 H7 l Qy Qn hj sm hl ⟨rfl, rfl⟩ qy qn
      have step := restsL_succ b r up s j
      have jm : j % r.rhythm.length < r.rhythm.length := Nat.mod_lt _ (by omega)
      have em : ((1 + (j : Int) - 1) % ((r.rhythm.length : Nat) : Int)) = ((j % r.rhythm.length : Nat) : Int) := by
        rw [show (1 + (j : Int) - 1) = (j : Int) by omega]
        exact (Int.natCast_emod _ _).symm
      have at_ : atI (tx r.rhythm).cps.toList ((1 + (j : Int) - 1) % ((tx r.rhythm).length : Int)) = some (r.rhythm.getD (j % r.rhythm.length) 0) := by
        rw [tx_list, tx_len, em]
        refine atI_nat ?_
        rw [List.getD_eq_getElem?_getD, List.getElem?_eq_getElem jm]
        rfl
      refine ⟨rfl, .str (tx r.rhythm), rfl, .int (1 + (j : Int)), rfl, _, 1, rfl, rfl, .str (tx r.rhythm), rfl, tx r.rhythm, rfl, fit_tx (by omega), _, _, rfl, rfl, (by show (0 : Int) < ((tx r.rhythm).length : Int); rw [tx_len]; omega), tx r.rhythm, _, _, rfl, rfl, fit_tx (by omega), at_, rfl, _, rfl, ?_⟩
      by_cases c : r.rhythm.getD (j % r.rhythm.length) 0 = 120
      · refine yesOf (decide_eq_true (by rw [c]; rfl)) ?_
        refine ⟨.ref p, rfl, .ref t, rfl, .int (1 + (j : Int)), rfl, p, t, k, s, b, 1 + (j : Int), rfl, iw5.same sm, ok.bs, sm _ _ ip5, hs, hb, en, fun u H8 s8 iu => ?_⟩
        have stu : IsPlace H8 t1 (r.stop up) := s8 _ _ (sm _ _ st5)
        refine ⟨.ref t1, rfl, _, _, dp_place iu, dp_place stu, shaped_place (low s hs).low, shaped_place stopLow, _, rfl, ?_⟩
        have ev : PyData.eqv (placeD (goL b s (1 + (j : Int)))) (placeD (r.stop up)) = decide (goL b s (1 + (j : Int)) = r.stop up) := eqv_place _ _
        by_cases d : goL b s (1 + (j : Int)) = r.stop up
        · refine yesOf (by rw [ev]; exact decide_eq_true d) ?_
          rw [if_pos (show passB b r up s j = true from decide_eq_true ⟨c, d⟩)] at step
          refine ⟨.int (1 + (j : Int)), rfl, qy _ _ s8 ?_⟩
          rw [hl, step, List.map_append]
          rfl
        · refine noOf (by rw [ev]; exact decide_eq_false d) ?_
          rw [if_neg (by rw [show passB b r up s j = false from decide_eq_false fun h => d h.2]; exact Bool.false_ne_true)] at step
          exact qn _ s8 (by rw [hl, step])
      · have ne : ¬ V.str ⟨#[r.rhythm.getD (j % r.rhythm.length) 0]⟩ = V.str "x" := fun h => c (List.singleton_inj.mp (tx_inj (a := [r.rhythm.getD (j % r.rhythm.length) 0]) (b := [120]) (V.str.inj h)))
        refine noOf (decide_eq_false ne) ?_
        rw [if_neg (by rw [show passB b r up s j = false from decide_eq_false fun h => c h.1]; exact Bool.false_ne_true)] at step
        exact qn _ (Same.refl _) (by rw [hl, step])
    · intro H6 l sm hl hD
      rw [hl] at hD
      refine ⟨.int (commonL b r : Nat), rfl, .ref D, rfl, (by show 2 ≤ sizeLine; decide), fun T nT => ?_⟩
      exact q T D _ ((s15.trans sm).trans (same_new nT)) upd_same (same_new nT _ _ hD)
end
end K05
set_option Elab.async false
set_option linter.all false
set_option maxRecDepth 100000
set_option maxHeartbeats 2000000
/-! How many passes, and the next one. -/
namespace K05
open PySem PySem.Spec PyProof.Rows L2 Bp
section
variable {P : Program} {w : World} {K : PySem.W.Frag} {mg : Str → Option Value} {base : Heap} {CW CB CP : Addr}
/-- what both ask -/
structure Asked (CW CB CP : Addr) (H : Hp) (p t : Addr) (k : WorkL) (i : Nat) (r : PressL) (s : PlaceL) (b : BandL) : Prop where
  iw : IsWork CW CB CP H p k
  ok : k.Ok
  er : k.presses[i]? = some r
  ip : IsPlace H t s
  hs : s ∈ k.places
  hb : b ∈ k.bands
  en : b.name = s.name
theorem Asked.common {H : Hp} {p t : Addr} {k : WorkL} {i : Nat} {r : PressL} {s : PlaceL} {b : BandL} (a : Asked CW CB CP H p t k i r s b) : 0 < commonL b r ∧ commonL b r ≤ 100 := by
  have rh := (a.ok.fit r (List.mem_of_getElem? a.er)).ok.rh
  have okb := a.ok.bs.each b a.hb
  have h1 := rh.lo
  have h2 := rh.hi
  have h3 := okb.lo
  have h4 := okb.hi
  unfold commonL
  have le : Nat.lcm b.long r.rhythm.length ≤ b.long * r.rhythm.length := Nat.le_of_dvd (Nat.mul_pos (by omega) (by omega)) (Nat.lcm_dvd_mul _ _)
  have m : b.long * r.rhythm.length ≤ 12 * 6 := Nat.mul_le_mul h4 h2
  exact ⟨Nat.lcm_pos (by omega) (by omega), by omega⟩
def top0 (u : Int) : Int := if 0 > u then 0 else u
def cutoff (rs : List Int) (z : Int) (n : Nat) : List Int := (rs.take n).filter fun x => decide (x ≤ z)
def countL (b : BandL) (r : PressL) (up : Bool) (s : PlaceL) (u : Int) : Int :=
  (top0 u) / (commonL b r : Int) * ((restsL b r up s (commonL b r)).length : Int) + (((restsL b r up s (commonL b r)).filter fun x => decide (x ≤ (top0 u) % (commonL b r : Int))).length : Int)
theorem sc_how_many : FnScope ["work", "press", "side", "place", "upto", "common", "rests", "rounds", "rest", "beat"] ["work", "press", "side", "place", "upto"] (defScope s_how_many_passes) := ⟨rfl, rfl, rfl, by decide +kernel, rfl, by decide +kernel, by decide +kernel⟩
abbrev NsH : List Str := ["work", "press", "side", "place", "upto", "common", "rests", "rounds", "rest", "beat"]
def sp_how_many (CW CB CP : Addr) : Sp := fun vs H Q _ => ∃ (p t : Addr) (k : WorkL) (i : Nat) (r : PressL) (up : Bool) (s : PlaceL) (b : BandL) (u : Int), vs = [.ref p, .int i, .str (sideT up), .ref t, .int u] ∧ Asked CW CB CP H p t k i r s b ∧
  ∀ H', Same H H' → Q (.int (countL b r up s u)) H'
theorem ok_how_many {f : Addr} {fd : FuncData} {k : Nat} (B : Blt mg) (mm : mg "max" = none) (md : mg "divmod" = none) (D : Def P w K mg base CX0 k "passes" s_passes ["work", "press", "side", "place"] (sp_passes CW CB CP)) (F : Fun K "how_many_passes" "how_many_passes" s_how_many_passes f fd) :
    FnOk P w K mg base CX0 (k + 1) f fd ["work", "press", "side", "place", "upto"] (sp_how_many CW CB CP) := by
  obtain ⟨f1, fd1, F1, b1, g1, G1⟩ := D.ex
  refine F.ok sc_how_many (fun vs H Q E h => ?_) (fun cdv A outer sh H vs Q E hr h => ?_)
  · obtain ⟨p, t, k, i, r, up, s, b, u, rfl, _⟩ := h
    rfl
  · obtain ⟨p, t, k, i, r, up, s, b, u, rfl, a, q⟩ := h
    refine ⟨_, pss_cons (ps_asg (pe_call G1 hr rfl g1 F1.kp b1 .nil pass0 (pa_cons (pv 0) (pa_cons (pv 1) (pa_cons (pv 2) (pa_cons (pv 3) pa_nil))))) (pg_tup rfl (pgs_cons (pg_name (i := 5) sc_how_many.nd rfl (.inl rfl)) (pgs_cons (pg_name (i := 6) sc_how_many.nd rfl (.inl rfl)) pgs_nil))))
      (pss_cons (ps_asg (pe_callB call_divmod (by rfl) md (by decide +kernel) (pa_cons (pe_callB (call_max2 rfl) (by rfl) mm (by decide +kernel) (pa_cons (pv 4) (pa_cons pe_int pa_nil))) (pa_cons (pv 5) pa_nil))) (pg_tup rfl (pgs_cons (pg_name (i := 7) sc_how_many.nd rfl (.inl rfl)) (pgs_cons (pg_name (i := 8) sc_how_many.nd rfl (.inr rfl)) pgs_nil))))
      (pss_one (ps_ret (pe_op op_add (pe_op op_mul (pv 7) (pe_callB call_len (by rfl) B.len PySem.boot_len (pa_cons (pv 6) pa_nil)))
        (pe_callB call_len (by rfl) B.len PySem.boot_len (pa_cons (pe_lc (own := [("beat", 9)]) (g := gName 9) rfl sc_how_many.nd (pi_list (pv 6)) (blkOk_by (own := [("beat", 9)]) (N := NsH) (sc := defScope s_how_many_passes) (by decide +kernel))
          (fun _ _ _ _ _ => pg_name (i := 9) sc_how_many.nd rfl (Or.inl rfl)) (fun _ _ _ _ _ => pts_one (pt_cmpR op_le (pv 9) (pv 8) (nomark _))) (fun _ _ _ _ _ => pv 9)) pa_nil)))))), ?_⟩
    obtain ⟨c0, c1⟩ := a.common
    refine ⟨.ref p, rfl, .int i, rfl, .str (sideT up), rfl, .ref t, rfl, p, t, k, i, r, up, s, b, rfl, a.iw, a.ok, a.er, a.ip, a.hs, a.hb, a.en, fun T l H1 s1 hT hl => ?_⟩
    refine ⟨T, _, rfl, SqT.of hT, rfl, _, _, rfl, _, _, rfl, rfl, ?_⟩
    refine ⟨.int u, rfl, u, 0, rfl, .int (commonL b r : Nat), rfl, _, _, rfl, ⟨by omega, by omega⟩, fun d nd => ?_⟩
    have hl2 := same_new (o := .tup [.int (top0 u / (commonL b r : Int)), .int (top0 u % (commonL b r : Int))]) nd _ _ hl
    have few := restsL_few b r up s (commonL b r)
    refine ⟨d, _, rfl, SqT.of upd_same, rfl, _, _, rfl, _, _, rfl, rfl, ?_⟩
    refine ⟨.int (top0 u / (commonL b r : Int)), rfl, .ref l, rfl, .ref l, (restsL b r up s (commonL b r)).length, rfl, .inl ⟨_, SqL.of hl2, by rw [List.length_map]⟩, _, _, rfl, rfl, .inr ⟨by omega, by omega⟩, ?_⟩
    refine ⟨.ref l, rfl, l, rfl, ⟨_, SqL.of hl2⟩, fun D nD => ?_⟩
    refine lc_v (walk_list (K := K) (a := l) (xs := (restsL b r up s (commonL b r)).map V.int)) (fun H3 sm => SqL.of (sm _ _ hl2)) (fun j _ m => m = (cutoff (restsL b r up s (commonL b r)) (top0 u % (commonL b r : Int)) j).map V.int) (fun _ => rfl) (fun j _ m _ e => ?_) (fun _ _ _ _ _ e => e) nD ?_ ?_
    · rw [e, List.length_map]
      unfold cutoff
      have := List.length_filter_le (fun x => decide (x ≤ top0 u % (commonL b r : Int))) ((restsL b r up s (commonL b r)).take j)
      rw [List.length_take] at this
      omega
    · rintro j x H3 H4 m Qy Qn hj sm hm ⟨rfl, hx⟩ qy qn
      obtain ⟨n, en, rfl⟩ : ∃ n, (restsL b r up s (commonL b r))[j]? = some n ∧ x = .int n := by
        rw [List.getElem?_map] at hx
        cases e : (restsL b r up s (commonL b r))[j]? with
        | none =>
          rw [e] at hx
          cases hx
        | some n =>
          rw [e] at hx
          exact ⟨n, rfl, (Option.some.inj hx).symm⟩
      have step : cutoff (restsL b r up s (commonL b r)) (top0 u % (commonL b r : Int)) (j + 1) = if n ≤ top0 u % (commonL b r : Int) then cutoff (restsL b r up s (commonL b r)) (top0 u % (commonL b r : Int)) j ++ [n] else cutoff (restsL b r up s (commonL b r)) (top0 u % (commonL b r : Int)) j := by
        unfold cutoff
        rw [List.take_add_one, en, List.filter_append]
        by_cases c : n ≤ top0 u % (commonL b r : Int)
        · rw [if_pos c]
          simp [c]
        · rw [if_neg c]
          simp [c]
      refine ⟨rfl, .int n, rfl, .int (top0 u % (commonL b r : Int)), rfl, _, _, rfl, rfl, _, rfl, ?_⟩
      by_cases c : n ≤ top0 u % (commonL b r : Int)
      · refine yesOf (decide_eq_true c) ?_
        rw [if_pos c] at step
        refine ⟨.int n, rfl, qy _ _ (Same.refl _) ?_⟩
        rw [hm, step, List.map_append]
        rfl
      · refine noOf (decide_eq_false c) ?_
        rw [if_neg c] at step
        exact qn _ (Same.refl _) (by rw [hm, step])
    · intro H3 m sm hm hD
      have all : cutoff (restsL b r up s (commonL b r)) (top0 u % (commonL b r : Int)) ((restsL b r up s (commonL b r)).map V.int).length = (restsL b r up s (commonL b r)).filter fun x => decide (x ≤ top0 u % (commonL b r : Int)) := by
        unfold cutoff
        rw [List.length_map, List.take_length]
      rw [all] at hm
      rw [hm] at hD
      refine ⟨.ref D, _, rfl, .inl ⟨_, SqL.of hD, (List.length_map _).symm⟩, _, _, rfl, rfl, ?_⟩
      exact q H3 ((s1.trans (same_new nd)).trans sm)
end
end K05
set_option Elab.async false
set_option linter.all false
set_option maxRecDepth 100000
set_option maxHeartbeats 2000000
/-! The next pass. -/
namespace K05
open PySem PySem.Spec PyProof.Rows L2 Bp
section
variable {P : Program} {w : World} {K : PySem.W.Frag} {mg : Str → Option Value} {base : Heap} {CW CB CP : Addr}
def nextOf (rs : List Int) (c u : Int) : Option Int := if rs = [] then none else
  match rs.find? fun x => decide (x > top0 u % c) with
  | some x => some (top0 u / c * c + x)
  | none => some ((top0 u / c + 1) * c + rs.headD 0)
def optV : Option Int → V
  | none => .non
  | some x => .int x
theorem sc_next : FnScope ["work", "press", "side", "place", "behind", "common", "rests", "rounds", "rest", "beat"] ["work", "press", "side", "place", "behind"] (defScope s_next_pass) := ⟨rfl, rfl, rfl, by decide +kernel, rfl, by decide +kernel, by decide +kernel⟩
def sp_next (CW CB CP : Addr) : Sp := fun vs H Q _ => ∃ (p t : Addr) (k : WorkL) (i : Nat) (r : PressL) (up : Bool) (s : PlaceL) (b : BandL) (u : Int), vs = [.ref p, .int i, .str (sideT up), .ref t, .int u] ∧ Asked CW CB CP H p t k i r s b ∧
  ∀ H', Same H H' → Q (optV (nextOf (restsL b r up s (commonL b r)) (commonL b r : Nat) u)) H'
theorem ok_next {f : Addr} {fd : FuncData} {k : Nat} (mm : mg "max" = none) (md : mg "divmod" = none) (D : Def P w K mg base CX0 k "passes" s_passes ["work", "press", "side", "place"] (sp_passes CW CB CP)) (F : FD K "next_pass" "next_pass" s_next_pass [] [("behind", .int 0)] f fd) :
    FnOk P w K mg base CX0 (k + 1) f fd ["work", "press", "side", "place", "behind"] (sp_next CW CB CP) := by
  obtain ⟨f1, fd1, F1, b1, g1, G1⟩ := D.ex
  refine F.ok sc_next (fun vs H Q E h => ?_) (fun cdv A outer sh H vs Q E hr h => ?_)
  · obtain ⟨p, t, k, i, r, up, s, b, u, rfl, _⟩ := h
    rfl
  · obtain ⟨p, t, k, i, r, up, s, b, u, rfl, a, q⟩ := h
    refine ⟨_, pss_cons (ps_asg (pe_call G1 hr rfl g1 F1.kp b1 .nil pass0 (pa_cons (pv 0) (pa_cons (pv 1) (pa_cons (pv 2) (pa_cons (pv 3) pa_nil))))) (pg_tup rfl (pgs_cons (pg_name (i := 5) sc_next.nd rfl (.inl rfl)) (pgs_cons (pg_name (i := 6) sc_next.nd rfl (.inl rfl)) pgs_nil))))
      (pss_cons (ps_if (pt_not (pt_truth (pv 6) (by intro _; rfl))) (pss_one (ps_ret pe_non)) pss_nil)
      (pss_cons (ps_asg (pe_callB call_divmod (by rfl) md (by decide +kernel) (pa_cons (pe_callB (call_max2 rfl) (by rfl) mm (by decide +kernel) (pa_cons (pv 4) (pa_cons pe_int pa_nil))) (pa_cons (pv 5) pa_nil))) (pg_tup rfl (pgs_cons (pg_name (i := 7) sc_next.nd rfl (.inl rfl)) (pgs_cons (pg_name (i := 8) sc_next.nd rfl (.inl rfl)) pgs_nil))))
      (pss_cons (ps_for (passes_of rfl) rfl (pi_list (pv 6)) (pg_name (i := 9) sc_next.nd rfl (Or.inl rfl))
        (pss_one (ps_if (pt_cmpR op_gt (pv 9) (pv 8) (nomark _)) (pss_one (ps_ret (pe_op op_add (pe_op op_mul (pv 7) (pv 5)) (pv 9)))) pss_nil)))
      (pss_one (ps_ret (pe_op op_add (pe_op op_mul (pe_op op_add (pv 7) pe_int) (pv 5)) (pe_ix ix_list (pv 6) pe_int (fun _ _ => rfl)))))))), ?_⟩
    obtain ⟨c0, c1⟩ := a.common
    refine ⟨.ref p, rfl, .int i, rfl, .str (sideT up), rfl, .ref t, rfl, p, t, k, i, r, up, s, b, rfl, a.iw, a.ok, a.er, a.ip, a.hs, a.hb, a.en, fun T l H1 s1 hT hl => ?_⟩
    generalize restsL b r up s (commonL b r) = rs at hl q
    generalize commonL b r = c at c0 c1 q hT
    refine ⟨T, _, rfl, SqT.of hT, rfl, _, _, rfl, _, _, rfl, rfl, ?_⟩
    refine ⟨.ref l, rfl, !(rs.map V.int).isEmpty, .inl ⟨_, SqL.of hl, rfl⟩, ?_⟩
    by_cases none_ : rs = []
    · subst none_
      refine yesOf rfl ?_
      have q1 := q H1 s1
      unfold nextOf at q1
      rw [if_pos rfl] at q1
      exact q1
    · have pos := List.length_pos_iff.mpr none_
      refine noOf (by cases rs with | nil => exact absurd rfl none_ | cons x xs => rfl) ?_
      refine ⟨.int u, rfl, u, 0, rfl, .int (c : Nat), rfl, _, _, rfl, ⟨by omega, by omega⟩, fun d nd => ?_⟩
      have sd : Same H1 (upd H1 d (.tup [.int (top0 u / (c : Int)), .int (top0 u % (c : Int))])) := same_new nd
      have hl2 := sd _ _ hl
      refine ⟨d, _, rfl, SqT.of upd_same, rfl, _, _, rfl, _, _, rfl, rfl, ?_⟩
      refine ⟨.ref l, rfl, l, rfl, ⟨_, SqL.of hl2⟩, ?_⟩
      have q2 : ∀ H', Same H1 H' → Q (optV (nextOf rs (c : Nat) u)) H' := fun H' s' => q H' (s1.trans s')
      refine for_it (walk_list (K := K) (a := l) (xs := rs.map V.int)) (fun j σ H2 => (∃ v9, σ = [some (.ref p), some (.int i), some (.str (sideT up)), some (.ref t), some (.int u), some (.int (c : Nat)), some (.ref l), some (.int (top0 u / (c : Int))), some (.int (top0 u % (c : Int))), v9]) ∧ H2 = upd H1 d (.tup [.int (top0 u / (c : Int)), .int (top0 u % (c : Int))]) ∧
        ∀ x ∈ rs.take j, ¬ x > top0 u % (c : Int)) ⟨⟨none, rfl⟩, rfl, by simp⟩ (fun j σ H2 _ z => by rw [z.2.1]; exact SqL.of hl2) ?_ ?_
      · rintro j x σ H2 H3 hj ⟨⟨v9, rfl⟩, rfl, before⟩ ⟨rfl, hx⟩
        obtain ⟨n, en, rfl⟩ : ∃ n, rs[j]? = some n ∧ x = .int n := by
          rw [List.getElem?_map] at hx
          cases e : rs[j]? with
          | none =>
            rw [e] at hx
            cases hx
          | some n =>
            rw [e] at hx
            exact ⟨n, rfl, (Option.some.inj hx).symm⟩
        refine ⟨.int n, rfl, .int (top0 u % (c : Int)), rfl, _, _, rfl, rfl, _, rfl, ?_⟩
        by_cases g : n > top0 u % (c : Int)
        · refine yesOf (decide_eq_true g) ?_
          refine ⟨.int (top0 u / (c : Int)), rfl, .int (c : Nat), rfl, _, _, rfl, rfl, .inr ⟨by omega, by omega⟩, .int n, rfl, _, _, rfl, rfl, ?_⟩
          have q3 := q2 _ sd
          have fnd : rs.find? (fun x => decide (x > top0 u % (c : Int))) = some n := by
            obtain ⟨jl, ej⟩ := List.getElem?_eq_some_iff.mp en
            refine List.find?_eq_some_iff_getElem.mpr ⟨decide_eq_true g, j, jl, ej, fun i hi => ?_⟩
            have : rs[i] ∈ rs.take j := List.mem_take_iff_getElem.mpr ⟨i, by omega, rfl⟩
            rw [decide_eq_false (before _ this)]
            rfl
          unfold nextOf at q3
          rw [if_neg none_, fnd] at q3
          exact q3
        · refine noOf (decide_eq_false g) ?_
          refine ⟨⟨_, rfl⟩, rfl, fun x hx => ?_⟩
          rw [List.take_add_one, en] at hx
          rcases List.mem_append.mp hx with hx | hx
          · exact before x hx
          · rw [List.mem_singleton.mp hx]
            exact g
      · rintro σ H2 ⟨⟨v9, rfl⟩, rfl, before⟩
        rw [List.length_map, List.take_length] at before
        refine ⟨.int (top0 u / (c : Int)), rfl, _, 1, rfl, rfl, .int (c : Nat), rfl, _, _, rfl, rfl, .inr ⟨by omega, by omega⟩, .ref l, rfl, l, _, 0, .int rs[0], rfl, rfl, SqL.of hl2, atI_nat (j := 0) (by rw [List.getElem?_map, List.getElem?_eq_getElem pos]; rfl), _, _, rfl, rfl, ?_⟩
        have q3 := q2 _ sd
        have fnd : rs.find? (fun x => decide (x > top0 u % (c : Int))) = none := List.find?_eq_none.mpr fun x hx z => before x hx (of_decide_eq_true z)
        have hd : rs.headD 0 = rs[0] := by
          cases rs with
          | nil => exact absurd rfl none_
          | cons x xs => rfl
        unfold nextOf at q3
        rw [if_neg none_, fnd, hd] at q3
        exact q3
end
end K05
set_option Elab.async false
set_option linter.all false
set_option maxRecDepth 100000
set_option maxHeartbeats 1000000
/-! The law's own hand: what it draws. -/
namespace K05
open PySem PySem.Spec PyProof.Rows L2 Bp
section
variable {P : Program} {w : World} {K : PySem.W.Frag} {mg : Str → Option Value} {base : Heap}
/-! ### the feed -/
theorem scFeed : FnScope ["_law_script", "_law_cell"] ["_law_script"] (defScope s_law_feed) := ⟨rfl, rfl, rfl, by decide +kernel, rfl, by decide +kernel, by decide +kernel⟩
def spFeed (K : PySem.W.Frag) : Sp := fun vs H Q _ => ∃ (a : Addr) (ns : List Int), vs = [.ref a] ∧ SqL K H a (ns.map V.int) ∧ ns.length ≤ 1000 ∧ ∀ H' (g : Fed), H g.f = none → FeedAt K H' g 0 → Same H H' → Q (.ref g.f) H'
theorem ok_feed {f : Addr} {fd : FuncData} {k : Nat} (F : Fun K "_law_feed" "_law_feed" s_law_feed f fd) : FnOk P w K mg base CX0 (k + 1) f fd ["_law_script"] (spFeed K) := by
  refine F.ok scFeed (fun vs H Q E h => ?_) (fun cdv A outer s H vs Q E hr h => ?_)
  · obtain ⟨a, ns, rfl, _⟩ := h
    rfl
  · obtain ⟨a, ns, rfl, hS, few, q⟩ := h
    refine ⟨_, pss_one (ps_ret (pe_disp (pps_cons pe_str (pe_lc (own := [("_law_cell", 1)]) (g := gName 1) (tt := tYes) rfl scFeed.nd (pi_list (pe_slice sl_list (pv 0) po_none (po_some pe_int))) (blkOk_by (own := [("_law_cell", 1)]) (N := ["_law_script", "_law_cell"]) (sc := defScope s_law_feed) (by decide +kernel))
        (fun _ _ _ _ _ => pg_name (i := 1) scFeed.nd rfl (Or.inl rfl)) (fun _ _ _ _ _ => pts_nil) (fun _ _ _ _ _ => pv 1))
      (pps_cons pe_str pe_int (pps_cons pe_str pe_int pps_nil))) (by rfl) (by rfl) (fun z => by cases z) (by decide))), ?_⟩
    intro f nf
    have s1 : Same H (upd H f (.dK [])) := same_new nf
    obtain ⟨ms, em, short⟩ : ∃ ms : List Int, cutV (ns.map V.int) none (some 63) = ms.map V.int ∧ ms.length ≤ 1000 := by
      refine ⟨(ns.drop (HT.sIx (ns.map V.int).length 0 none)).take (HT.sIx (ns.map V.int).length (ns.map V.int).length (some 63) - HT.sIx (ns.map V.int).length 0 none), ?_, ?_⟩
      · unfold cutV
        rw [List.map_take, List.map_drop]
      · rw [List.length_take, List.length_drop]
        omega
    refine ⟨.ref a, rfl, 63, rfl, a, ns.map V.int, rfl, s1.seq hS, fun c nc => ?_⟩
    rw [em]
    have s2 : Same (upd H f (.dK [])) (upd (upd H f (.dK [])) c (.lst (ms.map V.int))) := same_new nc
    refine ⟨c, rfl, ⟨_, SqL.of upd_same⟩, fun D nD => ?_⟩
    refine lc_list (xs := ms.map V.int) (fun i H' => Same (upd (upd H f (.dK [])) c (.lst (ms.map V.int))) H' ∧ H' D = some (.lst ((ms.take i).map V.int))) ⟨same_new nD, upd_same⟩ (fun i H' _ z => SqL.of (z.1 _ _ upd_same)) ?_ ?_
    · rintro i x H1 hx ⟨sm, hD⟩
      obtain ⟨z, hz, rfl⟩ : ∃ z, ms[i]? = some z ∧ x = V.int z := by
        rw [List.getElem?_map] at hx
        cases e : ms[i]? with
        | none =>
          rw [e] at hx
          cases hx
        | some z =>
          rw [e] at hx
          exact ⟨z, rfl, (Option.some.inj hx).symm⟩
      refine ⟨rfl, yes_kept ?_⟩
      refine ⟨.int z, rfl, _, hD, ?_, ?_, ?_⟩
      · rw [List.length_map, List.length_take]
        exact small1000 (by omega)
      · exact fun b o e => by
          rw [upd_ne (ne_of_none e nD)]
          exact sm b o e
      · rw [upd_same, List.take_add_one, hz, List.map_append]
        rfl
    · rintro H1 ⟨sm, hD⟩
      rw [List.length_map, List.take_length] at hD
      have hf : H1 f = some (.dK []) := sm _ _ (s2 _ _ upd_same)
      refine ⟨hf, feedKvs D 0 0, rfl, (by show 3 ≤ 15; decide), ?_⟩
      rw [feed_made]
      refine q _ ⟨f, D, ms⟩ nf ⟨0, 0, upd_same, ?_, Int.le_refl _, Int.le_refl _, Int.le_refl _⟩ ?_
      · have ne : D ≠ f := ne_of hD hf (by intro z; cases z)
        exact SqL.of (by rw [upd_ne ne]; exact hD)
      · exact fun b o e => by
          rw [upd_ne (ne_of_none e nf)]
          exact sm _ _ (s2 _ _ (s1 _ _ e))
/-! ### a draw -/
theorem scDraw : FnScope ["_law_feed_here", "_law_many", "_law_digit", "_law_at", "_law_cell", "_law_mixed"] ["_law_feed_here", "_law_many"] (defScope s_law_draw) := ⟨rfl, rfl, rfl, by decide +kernel, rfl, by decide +kernel, by decide +kernel⟩
def spDraw (K : PySem.W.Frag) : Sp := fun vs H Q _ => ∃ (f : Fed) (m : Int) (n : Nat), vs = [.ref f.f, .int m] ∧ FeedAt K H f n ∧ n ≤ 2 ^ 40 ∧ 0 < m ∧ m.natAbs < 2 ^ 300 ∧ ∀ d H', 0 ≤ d → d < m → FeedAt K H' f (n + 1) → Kept f.f H H' → Q (.int d) H'
theorem abs_nn {z : Int} : 0 ≤ (if z < 0 then -z else z) := by
  split <;> omega
theorem mid {z : Int} (h0 : 0 ≤ z) (h : z ≤ 2 ^ 63) : CMul z z := .inl ⟨by omega, by omega⟩
theorem ok_draw {f : Addr} {fd : FuncData} {k : Nat} (F : Fun K "_law_draw" "_law_draw" s_law_draw f fd) (ml : mg "len" = none) (ma : mg "abs" = none) : FnOk P w K mg base CX0 (k + 1) f fd ["_law_feed_here", "_law_many"] (spDraw K) := by
  refine F.ok scDraw (fun vs H Q E h => ?_) (fun cdv A outer s H vs Q E hr h => ?_)
  · obtain ⟨a, m, n, rfl, _⟩ := h
    rfl
  · obtain ⟨⟨a, c, ns⟩, m, n, rfl, fe, hn, m0, mb, q⟩ := h
    have hu := hu_of hr
    have hu64 : A.units + 3 + 64 < cLine := hr.units
    obtain ⟨at_, left, ef, sc, a0, an, l0⟩ := fe
    have small : ∀ z : Int, CDivW z m := fun z => wide_div m0 mb (by decide) (by decide)
    have at40 : at_ ≤ 2 ^ 40 := by omega
    have q2 : ∀ (z l : Int) (H' : Hp), 0 ≤ l → Kept a H H' → H' a = some (.dK (feedKvs c (at_ + 1) l)) → Q (.int (z % m)) H' := fun z l H' h0 kp e =>
      q _ _ (Int.emod_nonneg _ (by omega)) (Int.emod_lt_of_pos _ m0) ⟨at_ + 1, l, e, kp.seq ef sc, by omega, (by show at_ + 1 ≤ ((n + 1 : Nat) : Int); omega), h0⟩ kp
    -- what is done with the cell
    obtain ⟨tt, ht, pt⟩ : ∃ t, PSs (cxOf CX0 P w K mg base ["_law_feed_here", "_law_many", "_law_digit", "_law_at", "_law_cell", "_law_mixed"] "_law_draw" (defScope s_law_draw) f cdv A outer s H E).nox ((defBody s_law_draw).drop 5) t ∧
        ∀ (cell : Int) (H1 : Hp), Kept a H H1 → H1 a = some (.dK (feedKvs c (at_ + 1) left)) → t { nx := fun _ H' => Q .non H', rt := Q } [some (.ref a), some (.int m), none, some (.int at_), some (.int cell), none] H1 := by
      refine ⟨_, pss_cons (ps_if (PW.pt (pw_and (pt_cmpR op_lt (pv 3) (pe_callB call_len_seq (by rfl) ml PySem.boot_len (pa_cons (pe_dget hu (pv 0) pe_str (fun _ _ => rfl)) pa_nil)) (nomark _))
            (pw_and1 (pt_cmpR op_ge (pe_callB call_abs (by rfl) ma (by decide +kernel) (pa_cons (pv 4) pa_nil)) (pe_op op_pow pe_int pe_int) (nomark _)))))
        (pss_cons (ps_dput hu (pv 0) pe_str (pe_op op_fdivW (pe_op op_sub (pe_callB call_abs (by rfl) ma (by decide +kernel) (pa_cons (pv 4) pa_nil)) (pe_op op_pow pe_int pe_int)) (pv 1)) rfl)
        (pss_one (ps_ret (pe_op op_mod (pe_op op_sub (pe_callB call_abs (by rfl) ma (by decide +kernel) (pa_cons (pv 4) pa_nil)) (pe_op op_pow pe_int pe_int)) (pv 1))))) pss_nil)
      (pss_cons (ps_set (i := 5) scDraw.nd rfl (.inl rfl) (pe_op op_mod (pe_op op_add (pe_op op_mul (pv 4) pe_int) (pe_op op_mul pe_int (pe_op op_add (pv 3) pe_int))) pe_int))
      (pss_cons (ps_set (i := 5) scDraw.nd rfl (.inl rfl) (pe_op op_mod (pe_op op_mul (pv 5) (pe_op op_add (pv 5) pe_int)) pe_int))
      (pss_one (ps_ret (pe_op op_mod (pe_op op_fdivW (pv 5) pe_int) (pv 1)))))), ?_⟩
      intro cell H1 kp e1
      have s1 : SqL K H1 c (ns.map V.int) := kp.seq ef sc
      have cp : CPow 10 18 := ⟨by decide, by decide, by decide⟩
      have last : ∀ (z : Int) (H' : Hp), Kept a H H' → H' a = some (.dK (feedKvs c (at_ + 1) left)) → Q (.int (z % m)) H' := fun z H' kp e => q2 z left H' l0 kp e
      have big : (0 : Int) < 18446744073709551557 := by decide
      have m1 : ∀ z : Int, CMul z 6364136223846793005 := fun z => .inr ⟨by decide, by decide⟩
      have m2 : ∀ z : Int, CMul 1442695040888963407 z := fun z => .inl ⟨by decide, by decide⟩
      have m3 : ∀ z y : Int, CMul (z % 18446744073709551557) y := fun z y => .inl ⟨by omega, by omega⟩
      have d1 : ∀ z : Int, CDivW z 4294967311 := fun z => wide_div (by decide) (b := 40) (by decide) (by decide) (by decide)
      refine ⟨.int at_, rfl, .ref a, rfl, a, _, rfl, get_cells e1, c, _, rfl, .inl s1, _, _, rfl, rfl, _, rfl, ?_⟩
      refine ite2 (fun c1 => ?_) (fun c1 => ?_)
      · refine ⟨.int cell, rfl, cell, rfl, 10, 18, rfl, rfl, cp, _, _, rfl, rfl, _, rfl, ?_⟩
        refine ite2 (fun c2 => ?_) (fun c2 => ?_)
        · refine ⟨.int cell, rfl, cell, rfl, 10, 18, rfl, rfl, cp, _, _, rfl, rfl, .int m, rfl, _, _, rfl, rfl, small _, .ref a, rfl, a, _, rfl, put_left e1, ?_⟩
          refine ⟨.int cell, rfl, cell, rfl, 10, 18, rfl, rfl, cp, _, _, rfl, rfl, .int m, rfl, _, _, rfl, rfl, m0, ?_⟩
          refine q2 _ _ _ (Int.ediv_nonneg ?_ (by omega)) (kp.trans (Kept.put _)) upd_same
          have := of_decide_eq_true c2
          omega
        · refine ⟨.int cell, rfl, _, _, rfl, rfl, m1 _, .int at_, rfl, _, _, rfl, rfl, _, _, rfl, rfl, m2 _, _, _, rfl, rfl, _, _, rfl, rfl, big, ?_⟩
          refine ⟨_, rfl, _, rfl, _, _, rfl, rfl, _, _, rfl, rfl, m3 _ _, _, _, rfl, rfl, big, ?_⟩
          exact ⟨_, rfl, _, _, rfl, rfl, d1 _, .int m, rfl, _, _, rfl, rfl, m0, last _ H1 kp e1⟩
      · refine ⟨.int cell, rfl, _, _, rfl, rfl, m1 _, .int at_, rfl, _, _, rfl, rfl, _, _, rfl, rfl, m2 _, _, _, rfl, rfl, _, _, rfl, rfl, big, ?_⟩
        refine ⟨_, rfl, _, rfl, _, _, rfl, rfl, _, _, rfl, rfl, m3 _ _, _, _, rfl, rfl, big, ?_⟩
        exact ⟨_, rfl, _, _, rfl, rfl, d1 _, .int m, rfl, _, _, rfl, rfl, m0, last _ H1 kp e1⟩
    refine ⟨_, pss_cons (ps_if (pt_cmpR op_gt (pe_dget hu (pv 0) pe_str (fun _ _ => rfl)) pe_int (nomark _))
        (pss_cons (ps_set (i := 2) scDraw.nd rfl (.inl rfl) (pe_op op_mod (pe_dget hu (pv 0) pe_str (fun _ _ => rfl)) (pv 1)))
        (pss_cons (ps_dput hu (pv 0) pe_str (pe_op op_fdivW (pe_dget hu (pv 0) pe_str (fun _ _ => rfl)) (pv 1)) rfl)
        (pss_one (ps_ret (pv 2))))) pss_nil)
      (pss_cons (ps_set (i := 3) scDraw.nd rfl (.inl rfl) (pe_dget hu (pv 0) pe_str (fun _ _ => rfl)))
      (pss_cons (ps_dput hu (pv 0) pe_str (pe_op op_add (pv 3) pe_int) rfl)
      (pss_cons (ps_set (i := 4) scDraw.nd rfl (.inl rfl) (pe_op op_add (pe_op op_add (pe_op op_mul (pe_op op_mul pe_int (pv 3)) (pv 3)) (pe_op op_mul pe_int (pv 3))) pe_int))
      (pss_cons (ps_if (pt_cmpR (op_neD hu64) (pe_dget hu (pv 0) pe_str (fun _ _ => rfl)) (pe_lst pa_nil) (nomark _))
        (pss_one (ps_set (i := 4) scDraw.nd rfl (.inl rfl) (pe_op op_add (pv 4) (pe_ix ix_list (pe_dget hu (pv 0) pe_str (fun _ _ => rfl)) (pe_op op_mod (pv 3) (pe_callB call_len_seq (by rfl) ml PySem.boot_len (pa_cons (pe_dget hu (pv 0) pe_str (fun _ _ => rfl)) pa_nil))) (fun _ _ => rfl))))) pss_nil) ht)))), ?_⟩
    refine ⟨.ref a, rfl, a, _, rfl, get_left ef, _, _, rfl, rfl, _, rfl, ?_⟩
    refine ite2 (fun c0 => ?_) (fun c0 => ?_)
    · refine ⟨.ref a, rfl, a, _, rfl, get_left ef, .int m, rfl, left, m, rfl, rfl, m0, ?_⟩
      refine ⟨.ref a, rfl, a, _, rfl, get_left ef, .int m, rfl, left, m, rfl, rfl, small _, .ref a, rfl, a, _, rfl, put_left ef, ?_⟩
      refine ⟨.int (left % m), rfl, ?_⟩
      exact q _ _ (Int.emod_nonneg _ (by omega)) (Int.emod_lt_of_pos _ m0) ⟨at_, left / m, upd_same, (Kept.put _).seq ef sc, a0, (by show at_ ≤ ((n + 1 : Nat) : Int); omega), Int.ediv_nonneg l0 (Int.le_of_lt m0)⟩ (Kept.put _)
    · refine ⟨.ref a, rfl, a, _, rfl, get_at ef, .int at_, rfl, at_, 1, rfl, rfl, .ref a, rfl, a, _, rfl, put_at ef, ?_⟩
      have cm : ∀ z : Int, CMul z at_ := fun z => .inr ⟨by omega, by omega⟩
      refine ⟨.int at_, rfl, 53, at_, rfl, rfl, cm _, .int at_, rfl, _, at_, rfl, rfl, cm _, .int at_, rfl, 17, at_, rfl, rfl, cm _, _, _, rfl, rfl, _, 5, rfl, rfl, ?_⟩
      have ef1 : (upd H a (.dK (feedKvs c (at_ + 1) left))) a = some (.dK (feedKvs c (at_ + 1) left)) := upd_same
      have kp1 : Kept a H (upd H a (.dK (feedKvs c (at_ + 1) left))) := Kept.put _
      refine ⟨.ref a, rfl, a, _, rfl, get_cells ef1, (by show 0 ≤ sizeLine; decide), fun l nl => ?_⟩
      have kp2 : Kept a H (upd (upd H a (.dK (feedKvs c (at_ + 1) left))) l (.lst [])) := kp1.trans (Kept.of (same_new nl))
      have ef2 : (upd (upd H a (.dK (feedKvs c (at_ + 1) left))) l (.lst [])) a = some (.dK (feedKvs c (at_ + 1) left)) := same_new nl _ _ ef1
      have sc2 := kp2.seq ef sc
      refine ⟨_, _, dp_ints sc2, dp_ints (ns := []) (SqL.of upd_same), shaped_ints _, shaped_ints [], _, rfl, ?_⟩
      show if (!PyData.eqv (.list (ns.map PyData.int)) (.list [])) = true then _ else _
      rw [eqv_nil]
      by_cases e : ns = []
      · refine noOf (by rw [decide_eq_true e]; rfl) ?_
        exact pt _ _ kp2 ef2
      · refine yesOf (by rw [decide_eq_false e]; rfl) ?_
        have lp : 0 < ns.length := List.length_pos_iff.mpr e
        refine ⟨_, rfl, .ref a, rfl, a, _, rfl, get_cells ef2, .int at_, rfl, .ref a, rfl, a, _, rfl, get_cells ef2, c, _, rfl, .inl sc2, at_, _, rfl, rfl, (by show (0 : Int) < ((ns.map V.int).length : Int); rw [List.length_map]; omega), ?_⟩
        obtain ⟨j, hj⟩ := Int.eq_ofNat_of_zero_le (Int.emod_nonneg at_ (b := (ns.map V.int).length) (by rw [List.length_map]; omega))
        have jl : j < ns.length := by
          have := Int.emod_lt_of_pos at_ (b := (ns.map V.int).length) (by rw [List.length_map]; omega)
          rw [List.length_map] at this hj
          omega
        refine ⟨c, _, at_ % ((ns.map V.int).length : Int), .int ns[j], rfl, rfl, sc2, by rw [hj]; exact atI_nat (by rw [List.getElem?_map, List.getElem?_eq_getElem jl]; rfl), _, _, rfl, rfl, ?_⟩
        exact pt _ _ kp2 ef2
end
end K05
set_option Elab.async false
set_option linter.all false
set_option maxRecDepth 100000
set_option maxHeartbeats 1000000
/-! The law's own hand: what it picks; signs and maps of them. -/
set_option exponentiation.threshold 400
namespace K05
open PySem PySem.Spec PyProof.Rows L2 Bp
section
variable {P : Program} {w : World} {K : PySem.W.Frag} {mg : Str → Option Value} {base : Heap}
theorem ix_either {X : Cx} : IxR X (fun x y H Q => rIxL X.K x y H Q ∨ rIxS x y H Q) := by
  intro value slice pins s σ H x y v u Q I rx ry h hs
  rcases h with h | h
  · exact ix_list value slice pins s σ H x y v u Q I rx ry h hs
  · exact ix_str value slice pins s σ H x y v u Q I rx ry h hs
/-! ### a pick -/
abbrev Drw (P : Program) (w : World) (K : PySem.W.Frag) (mg : Str → Option Value) (base : Heap) (k : Nat) (f : Addr) (fd : FuncData) : Prop := FnOk P w K mg base CX0 k f fd ["_law_feed_here", "_law_many"] (spDraw K)
theorem scPick : FnScope ["_law_feed_here", "_law_some"] ["_law_feed_here", "_law_some"] (defScope s_law_pick) := ⟨rfl, rfl, rfl, by decide +kernel, rfl, by decide +kernel, by decide +kernel⟩
def spPick (K : PySem.W.Frag) : Sp := fun vs H Q _ => ∃ (f : Fed) (v : V) (n : Nat), vs = [.ref f.f, v] ∧ FeedAt K H f n ∧ n ≤ 2 ^ 40 ∧
  ((∃ m : List Nat, v = .str (tx m) ∧ 0 < m.length ∧ m.length ≤ 1000 ∧ ∀ c H', c ∈ m → FeedAt K H' f (n + 1) → Kept f.f H H' → Q (.str (tx [c])) H') ∨
   (∃ (l : Addr) (xs : List V), v = .ref l ∧ SqL K H l xs ∧ 0 < xs.length ∧ xs.length ≤ 1000 ∧ ∀ x H', x ∈ xs → FeedAt K H' f (n + 1) → Kept f.f H H' → Q x H'))
theorem ok_pick {f fD : Addr} {fd fdD : FuncData} {k : Nat} (F : Fun K "_law_pick" "_law_pick" s_law_pick f fd) (FD : Fun K "_law_draw" "_law_draw" s_law_draw fD fdD) (bD : Binds K fdD ["_law_feed_here", "_law_many"] []) (gD : mg "_law_draw" = some (.ref fD))
    (GD : Drw P w K mg base k fD fdD) (ml : mg "len" = none) : FnOk P w K mg base CX0 (k + 1) f fd ["_law_feed_here", "_law_some"] (spPick K) := by
  refine F.ok scPick (fun vs H Q E h => ?_) (fun cdv A outer s H vs Q E hr h => ?_)
  · obtain ⟨a, v, n, rfl, _⟩ := h
    rfl
  · obtain ⟨a, v, n, rfl, fe, hn, h⟩ := h
    refine ⟨_, pss_one (ps_ret (pe_ix ix_either (pv 1) (pe_call GD hr rfl gD FD.kp bD .nil pass0 (pa_cons (pv 0) (pa_cons (pe_callB call_len (by rfl) ml PySem.boot_len (pa_cons (pv 1) pa_nil)) pa_nil))) (fun _ _ => rfl))), ?_⟩
    rcases h with ⟨m, rfl, m0, m1, q⟩ | ⟨l, xs, rfl, sl, x0, x1, q⟩
    · refine ⟨.str (tx m), rfl, .ref a.f, rfl, .str (tx m), rfl, .str (tx m), m.length, rfl, ⟨?_, (tx_len m).symm⟩, a, _, n, rfl, fe, hn, by omega, ?_, ?_⟩
      · rw [tx_len]
        exact Nat.le_of_lt (small1000 m1)
      · refine Nat.lt_of_lt_of_le (show (m.length : Int).natAbs < 2 ^ 10 by omega) (Nat.pow_le_pow_right (by decide) (by decide))
      · intro d H' d0 dm fe' kp
        obtain ⟨j, rfl⟩ := Int.eq_ofNat_of_zero_le d0
        have jl : j < m.length := by omega
        refine .inr ⟨tx m, _, m[j], rfl, rfl, ?_, ?_, q _ _ (List.getElem_mem jl) fe' kp⟩
        · rw [tx_len]
          exact Nat.le_of_lt (small1000 m1)
        · rw [tx_list]
          exact atI_nat (List.getElem?_eq_getElem jl)
    · refine ⟨.ref l, rfl, .ref a.f, rfl, .ref l, rfl, .ref l, xs.length, rfl, .inl ⟨xs, sl, rfl⟩, a, _, n, rfl, fe, hn, by omega, ?_, ?_⟩
      · refine Nat.lt_of_lt_of_le (show (xs.length : Int).natAbs < 2 ^ 10 by omega) (Nat.pow_le_pow_right (by decide) (by decide))
      · intro d H' d0 dm fe' kp
        obtain ⟨j, rfl⟩ := Int.eq_ofNat_of_zero_le d0
        have jl : j < xs.length := by omega
        obtain ⟨kvs, ea⟩ := fe.dict
        exact .inl ⟨l, xs, _, xs[j], rfl, rfl, kp.seq ea sl, atI_nat (List.getElem?_eq_getElem jl), q _ _ (List.getElem_mem jl) fe' kp⟩
/-! ### signs -/
/-- letters from the first, by steps, around -/
def around (first step : Int) (many : Nat) : List Nat := (List.range many).map fun k => 97 + ((first + step * (k : Nat)) % 26).toNat
theorem around_nd {first step : Int} {many : Nat} (hs : step ∈ ([1, 3, 5, 7, 9, 11] : List Int)) (hm : many ≤ 4) : (around first step many).Nodup := by
  unfold around
  refine List.pairwise_map.mpr ?_
  refine List.Pairwise.imp_of_mem ?_ (List.nodup_range (n := many))
  intro i j hi hj ne e
  have h1 := List.mem_range.mp hi
  have h2 := List.mem_range.mp hj
  have e2 : (first + step * (i : Nat)) % 26 = (first + step * (j : Nat)) % 26 := by
    have a1 := Int.emod_nonneg (first + step * (i : Nat)) (b := 26) (by decide)
    have a2 := Int.emod_nonneg (first + step * (j : Nat)) (b := 26) (by decide)
    omega
  have st : step = 1 ∨ step = 3 ∨ step = 5 ∨ step = 7 ∨ step = 9 ∨ step = 11 := by simpa using hs
  rcases st with rfl | rfl | rfl | rfl | rfl | rfl <;> omega
theorem around_low (first step : Int) (many : Nat) : ∀ c ∈ around first step many, 97 ≤ c ∧ c ≤ 122 := by
  intro c hc
  obtain ⟨k, _, rfl⟩ := List.mem_map.mp hc
  have a1 := Int.emod_nonneg (first + step * (k : Nat)) (b := 26) (by decide)
  have a2 := Int.emod_lt_of_pos (first + step * (k : Nat)) (b := 26) (by decide)
  omega
theorem around_signs {first step : Int} {many : Nat} (hs : step ∈ ([1, 3, 5, 7, 9, 11] : List Int)) (lo : 2 ≤ many) (hm : many ≤ 4) {zs : List Nat} (p : zs.Perm (around first step many)) (srt : sortedS (ones zs) = true) : K33.Signs zs := by
  have nd : zs.Nodup := p.nodup_iff.mpr (around_nd hs hm)
  have len : zs.length = many := by
    rw [p.length_eq]
    unfold around
    rw [List.length_map, List.length_range]
  refine ⟨?_, by omega, by omega, fun c hc => around_low first step many c (p.mem_iff.mp hc)⟩
  refine List.Pairwise.imp₂ ?_ (K33.sorted_ones srt) nd
  intro a b h1 h2
  exact Nat.lt_of_le_of_ne h1 h2
theorem alphabet : ("abcdefghijklmnopqrstuvwxyz" : Str) = tx (List.range' 97 26) := by decide +kernel
theorem scSigns : FnScope ["_law_feed_here", "_law_many", "_law_letters", "_law_first", "_law_step", "_law_k"] ["_law_feed_here", "_law_many"] (defScope s_law_signs) := ⟨rfl, rfl, rfl, by decide +kernel, rfl, by decide +kernel, by decide +kernel⟩
abbrev Pck (P : Program) (w : World) (K : PySem.W.Frag) (mg : Str → Option Value) (base : Heap) (k : Nat) (f : Addr) (fd : FuncData) : Prop := FnOk P w K mg base CX0 k f fd ["_law_feed_here", "_law_some"] (spPick K)
def spSigns (K : PySem.W.Frag) : Sp := fun vs H Q _ => ∃ (f : Fed) (many n : Nat), vs = [.ref f.f, .int many] ∧ 2 ≤ many ∧ many ≤ 4 ∧ FeedAt K H f n ∧ n ≤ 2 ^ 30 ∧ ∀ s H', K33.Signs s → FeedAt K H' f (n + 2) → Kept f.f H H' → Q (.str (tx s)) H'
theorem ok_signs {f fD fP : Addr} {fd fdD fdP : FuncData} {k : Nat} (F : Fun K "_law_signs" "_law_signs" s_law_signs f fd) (FD : Fun K "_law_draw" "_law_draw" s_law_draw fD fdD) (bD : Binds K fdD ["_law_feed_here", "_law_many"] []) (gD : mg "_law_draw" = some (.ref fD))
    (GD : Drw P w K mg base k fD fdD) (FP : Fun K "_law_pick" "_law_pick" s_law_pick fP fdP) (bP : Binds K fdP ["_law_feed_here", "_law_some"] []) (gP : mg "_law_pick" = some (.ref fP)) (GP : Pck P w K mg base k fP fdP)
    (mr : mg "range" = none) (ms : mg "sorted" = none) : FnOk P w K mg base CX0 (k + 1) f fd ["_law_feed_here", "_law_many"] (spSigns K) := by
  refine F.ok scSigns (fun vs H Q E h => ?_) (fun cdv A outer s H vs Q E hr h => ?_)
  · obtain ⟨a, v, n, rfl, _⟩ := h
    rfl
  · obtain ⟨a, many, n, rfl, lo, hi, fe, hn, q⟩ := h
    refine ⟨_, pss_cons (ps_asg (pe_tup (pa_cons pe_str (pa_cons (pe_call GD hr rfl gD FD.kp bD .nil pass0 (pa_cons (pv 0) (pa_cons pe_int pa_nil)))
        (pa_cons (pe_call GP hr rfl gP FP.kp bP .nil pass0 (pa_cons (pv 0) (pa_cons (pe_lst (pa_cons pe_int (pa_cons pe_int (pa_cons pe_int (pa_cons pe_int (pa_cons pe_int (pa_cons pe_int pa_nil))))))) pa_nil))) pa_nil))))
        (pg_tup rfl (pgs_cons (pg_name (i := 2) scSigns.nd rfl (.inr rfl)) (pgs_cons (pg_name (i := 3) scSigns.nd rfl (.inr rfl)) (pgs_cons (pg_name (i := 4) scSigns.nd rfl (.inr rfl)) pgs_nil)))))
      (pss_one (ps_ret (pe_join pe_str (pe_callB cr_sortedS (by rfl) ms (by decide +kernel) (pa_cons (pe_lc (own := [("_law_k", 5)]) (g := gName 5) (tt := tYes) rfl scSigns.nd (pi_range1 (by rfl) mr (pa_cons (pv 1) pa_nil))
        (blkOk_by (own := [("_law_k", 5)]) (N := ["_law_feed_here", "_law_many", "_law_letters", "_law_first", "_law_step", "_law_k"]) (sc := defScope s_law_signs) (by decide +kernel))
        (fun _ _ _ _ _ => pg_name (i := 5) scSigns.nd rfl (Or.inl rfl)) (fun _ _ _ _ _ => pts_nil) (fun _ _ _ _ _ => pe_ix ix_str (pv 2) (pe_op op_mod (pe_op op_add (pv 3) (pe_op op_mul (pv 4) (pv 5))) pe_int) (fun _ _ => rfl))) pa_nil))))), ?_⟩
    refine ⟨.ref a.f, rfl, a, 26, n, rfl, fe, by omega, by decide, by decide, fun first H1 f0 f1 fe1 kp1 => ?_⟩
    refine ⟨.ref a.f, rfl, (by show 6 ≤ sizeLine; decide), fun l nl => ?_⟩
    refine ⟨a, .ref l, n + 1, rfl, fe1.same (same_new nl), by omega, .inr ⟨l, [1, 3, 5, 7, 9, 11].map V.int, rfl, SqL.of upd_same, by decide, by decide, fun x H2 hx fe2 kp2 => ?_⟩⟩
    obtain ⟨step, hst, rfl⟩ := List.mem_map.mp hx
    refine ⟨(by show 3 ≤ sizeLine; decide), fun t nt => ?_⟩
    refine ⟨t, _, rfl, SqT.of upd_same, rfl, _, _, rfl, _, _, rfl, _, _, rfl, rfl, ?_⟩
    have s3 : Same H2 (upd H2 t (.tup [.str "abcdefghijklmnopqrstuvwxyz", .int first, .int step])) := same_new nt
    have st0 : 0 ≤ step ∧ step ≤ 11 := by
      have st : step = 1 ∨ step = 3 ∨ step = 5 ∨ step = 7 ∨ step = 9 ∨ step = 11 := by simpa using hst
      omega
    refine ⟨⟨_, rfl⟩, .int many, rfl, many, rfl, by omega, by omega, fun D nD => ?_⟩
    have tn : (many : Int).toNat = many := Int.toNat_natCast _
    refine lc_tx (H := upd H2 t (.tup [.str "abcdefghijklmnopqrstuvwxyz", .int first, .int step])) (walk_range (lo := 0) (n := (many : Int).toNat)) (fun _ _ => trivial) (fun i => around first step i) rfl (fun i hi => ?_) nD ?_ ?_
    · unfold around
      rw [List.length_map, List.length_range]
      omega
    · rintro i x H4 H5 Qy Qn hi sm ⟨rfl, rfl⟩ qy _
      refine ⟨rfl, yes_kept ?_⟩
      obtain ⟨j, hj⟩ := Int.eq_ofNat_of_zero_le (Int.emod_nonneg (first + step * (0 + (i : Int))) (b := 26) (by decide))
      have jl : j < 26 := by
        have := Int.emod_lt_of_pos (first + step * (0 + (i : Int))) (b := 26) (by decide)
        omega
      refine ⟨.str "abcdefghijklmnopqrstuvwxyz", rfl, .int first, rfl, .int step, rfl, .int (0 + i), rfl, step, 0 + i, rfl, rfl, .inl ⟨by omega, by omega⟩, _, _, rfl, rfl, _, 26, rfl, rfl, (by show (0 : Int) < 26; decide), "abcdefghijklmnopqrstuvwxyz", _, 97 + j, rfl, rfl, by decide +kernel, ?_, qy _ _ (Same.refl _) ?_⟩
      · rw [alphabet, tx_list, hj]
        exact atI_nat (by rw [List.getElem?_range' jl, Nat.one_mul])
      · unfold around
        rw [List.range_succ, List.map_append]
        rw [Int.zero_add] at hj
        show _ ++ [97 + ((first + step * (i : Nat)) % 26).toNat] = _
        rw [hj]
        rfl
    · intro H4 sm hD
      rw [tn] at hD
      refine ⟨D, ones (around first step many), rfl, SqL.of hD, ?_, fun ys p perm srt np => ?_⟩
      · rw [ones_len]
        unfold around
        rw [List.length_map, List.length_range]
        omega
      · obtain ⟨zs, rfl, pz⟩ := K33.perm_ones perm
        have sg := around_signs hst lo hi pz srt
        refine ⟨tx [], p, ones zs, tx_nil ▸ rfl, rfl, .inl (SqL.of upd_same), ?_, ?_⟩
        · rw [ones_sum, ones_len, tx_len]
          have := sg.hi
          simp
          omega
        · show Q _ _
          rw [ones_join]
          have s5 : Same H2 (upd H4 p (.lst ((ones zs).map V.str))) := s3.trans (sm.trans (same_new np))
          exact q zs _ sg (fe2.same s5) ((kp1.trans (Kept.of (same_new nl))).trans (kp2.trans (Kept.of s5)))
end
end K05
set_option Elab.async false
set_option linter.all false
set_option maxRecDepth 100000
set_option maxHeartbeats 2000000
set_option exponentiation.threshold 400
/-! The law's own hand: names. -/
namespace K05
open PySem PySem.Spec PyProof.Rows L2 Bp
section
variable {P : Program} {w : World} {K : PySem.W.Frag} {mg : Str → Option Value} {base : Heap}
abbrev NsN : List Str := ["_law_feed_here", "_law_many", "_law_letters", "_law_found", "_law_stem", "_law_at", "_law_first", "_law_step", "_law_k", "_law_tail"]
theorem scNames : FnScope NsN ["_law_feed_here", "_law_many"] (defScope s_law_names) := ⟨rfl, rfl, rfl, by decide +kernel, rfl, by decide +kernel, by decide +kernel⟩
theorem Kept.new {H H1 : Hp} {f l : Addr} {o : HO} (h : Kept f H H1) (e : H l = none) : Kept f H (upd H1 l o) := fun b x n eb => by
  rw [upd_ne (ne_of_none eb e)]
  exact h b x n eb
theorem Kept.none {H H1 : Hp} {f l : Addr} (h : Kept f H H1) (ne : l ≠ f) (e : H1 l = none) : H l = none := by
  cases q : H l with
  | none => rfl
  | some o =>
    have := h _ _ ne q
    rw [e] at this
    cases this
/-- names, all unlike -/
structure NamesOk (many : Nat) (ns : List (List Nat)) : Prop where
  len : ns.length = many
  each : ∀ m ∈ ns, Nm m
  nd : ns.Nodup
def code (f st : Int) (i : Nat) : Nat := 97 + ((f + st * (i : Nat)) % 26).toNat
theorem code_low (f st : Int) (i : Nat) : 97 ≤ code f st i ∧ code f st i ≤ 122 := by
  unfold code
  have a1 := Int.emod_nonneg (f + st * (i : Nat)) (b := 26) (by decide)
  have a2 := Int.emod_lt_of_pos (f + st * (i : Nat)) (b := 26) (by decide)
  omega
theorem code_ne {f st : Int} {i j : Nat} (hs : st ∈ ([1, 3, 5, 7, 9, 11, 15, 17] : List Int)) (ij : i < j) (j6 : j < 6) : code f st i ≠ code f st j := by
  intro e
  unfold code at e
  have e2 : (f + st * (i : Nat)) % 26 = (f + st * (j : Nat)) % 26 := by
    have a1 := Int.emod_nonneg (f + st * (i : Nat)) (b := 26) (by decide)
    have a2 := Int.emod_nonneg (f + st * (j : Nat)) (b := 26) (by decide)
    omega
  have z : st = 1 ∨ st = 3 ∨ st = 5 ∨ st = 7 ∨ st = 9 ∨ st = 11 ∨ st = 15 ∨ st = 17 := by simpa using hs
  rcases z with rfl | rfl | rfl | rfl | rfl | rfl | rfl | rfl <;> omega
theorem cut_front (m : List Nat) (a : Nat) (h : a ≤ m.length) : cutS (tx m) none (some (a : Int)) = tx (m.take a) := by
  apply str_ext
  unfold cutS
  rw [tx_list, tx_len, tx_list, HT.sIx_nat, HT.sIx_none, List.drop_zero, Nat.sub_zero, Nat.min_eq_left h]
theorem cut_back (m : List Nat) (a : Nat) (h : a < m.length) : cutS (tx m) (some ((a : Int) + 1)) none = tx (m.drop (a + 1)) := by
  apply str_ext
  unfold cutS
  rw [tx_list, tx_len, tx_list, show ((a : Int) + 1) = ((a + 1 : Nat) : Int) by omega, HT.sIx_nat, HT.sIx_none, Nat.min_eq_left h]
  rw [← List.length_drop, List.take_length]
def sp_names (K : PySem.W.Frag) : Sp := fun vs H Q _ => ∃ (g : Fed) (many n : Nat), vs = [.ref g.f, .int many] ∧ many ≤ 6 ∧ FeedAt K H g n ∧ n ≤ 2 ^ 30 ∧ ∀ ns l H', NamesOk many ns → H l = none → H' l = some (.lst (txs ns)) → FeedAt K H' g (n + 20) → Kept g.f H H' → Q (.ref l) H'
theorem ok_names {f fD fP : Addr} {fd fdD fdP : FuncData} {k : Nat} (F : Fun K "_law_names" "_law_names" s_law_names f fd) (FD : Fun K "_law_draw" "_law_draw" s_law_draw fD fdD) (bD : Binds K fdD ["_law_feed_here", "_law_many"] []) (gD : mg "_law_draw" = some (.ref fD))
    (GD : Drw P w K mg base k fD fdD) (FP : Fun K "_law_pick" "_law_pick" s_law_pick fP fdP) (bP : Binds K fdP ["_law_feed_here", "_law_some"] []) (gP : mg "_law_pick" = some (.ref fP)) (GP : Pck P w K mg base k fP fdP)
    (B : Blt mg) : FnOk P w K mg base CX0 (k + 1) f fd ["_law_feed_here", "_law_many"] (sp_names K) := by
  refine F.ok scNames (fun vs H Q E h => ?_) (fun cdv A outer sh H vs Q E hr h => ?_)
  · obtain ⟨g, many, n, rfl, _⟩ := h
    rfl
  · obtain ⟨g, many, n, rfl, m6, fe, hn, q⟩ := h
    refine ⟨_, pss_cons (ps_asg (pe_tup (pa_cons pe_str (pa_cons (pe_lst pa_nil) pa_nil))) (pg_tup rfl (pgs_cons (pg_name (i := 2) scNames.nd rfl (.inr rfl)) (pgs_cons (pg_name (i := 3) scNames.nd rfl (.inl rfl)) pgs_nil))))
      (pss_cons (ps_set (i := 4) scNames.nd rfl (.inl rfl) (pe_join pe_str (pe_lc (own := [("_law_k", 8)]) (g := gName 8) (tt := tYes) rfl scNames.nd (pi_range1 (by rfl) B.rng (pa_cons (pe_op op_add pe_int (pe_call GD hr rfl gD FD.kp bD .nil pass0 (pa_cons (pv 0) (pa_cons pe_int pa_nil)))) pa_nil))
          (blkOk_by (own := [("_law_k", 8)]) (N := NsN) (sc := defScope s_law_names) (by decide +kernel)) (fun _ _ _ _ _ => pg_name (i := 8) scNames.nd rfl (Or.inl rfl)) (fun _ _ _ _ _ => pts_nil) (fun _ _ _ _ _ => pe_call GP hr rfl gP FP.kp bP .nil pass0 (pa_cons (pv 0) (pa_cons (pv 2) pa_nil))))))
      (pss_cons (ps_par3 (i := 5) (j := 6) (l := 7) rfl scNames.nd rfl rfl rfl (by decide) (by decide) (by decide) rfl rfl rfl (pa_cons (pe_call GD hr rfl gD FD.kp bD .nil pass0 (pa_cons (pv 0) (pa_cons (pe_callB call_len (by rfl) B.len PySem.boot_len (pa_cons (pv 4) pa_nil)) pa_nil))) (pa_cons (pe_call GD hr rfl gD FD.kp bD .nil pass0 (pa_cons (pv 0) (pa_cons pe_int pa_nil)))
          (pa_cons (pe_call GP hr rfl gP FP.kp bP .nil pass0 (pa_cons (pv 0) (pa_cons (pe_lst (pa_cons pe_int (pa_cons pe_int (pa_cons pe_int (pa_cons pe_int (pa_cons pe_int (pa_cons pe_int (pa_cons pe_int (pa_cons pe_int pa_nil))))))))) pa_nil))) pa_nil))) (by rfl))
      (pss_cons (ps_for PassesOwn.never rfl (pi_range1 (by rfl) B.rng (pa_cons (pv 1) pa_nil)) (pg_name (i := 8) scNames.nd rfl (Or.inl rfl))
        (pss_cons (ps_set (i := 9) scNames.nd rfl (.inl rfl) (pe_ifExp (pt_cmpR op_gt (pe_call GD hr rfl gD FD.kp bD .nil pass0 (pa_cons (pv 0) (pa_cons pe_int pa_nil))) pe_int (nomark _)) (pe_slice sl_str (pv 4) (po_some (pe_op op_add (pv 5) pe_int)) po_none) pe_str))
        (pss_one (ps_expr (pe_bm PySem.F.plainAttrs_list PySem.F.slot_list_append PySem.F.type_list_append mt_append (pv 3) (pa_cons (pe_op op_add_str (pe_op op_add_str (pe_slice sl_str (pv 4) po_none (po_some (pv 5))) (pe_ix ix_str (pv 2) (pe_op op_mod (pe_op op_add (pv 6) (pe_op op_mul (pv 7) (pv 8))) pe_int) (fun _ _ => rfl))) (pv 9)) pa_nil))))))
      (pss_one (ps_ret (pv 3)))))), ?_⟩
    have alph : (V.str "abcdefghijklmnopqrstuvwxyz") = .str (tx (List.range' 97 26)) := congrArg V.str alphabet
    refine ⟨(by show 0 ≤ sizeLine; decide), fun l nl => ⟨(by show 2 ≤ sizeLine; decide), fun t nt => ?_⟩⟩
    refine ⟨t, _, rfl, SqT.of upd_same, rfl, _, _, rfl, _, _, rfl, rfl, ?_⟩
    have lt : l ≠ t := ne_of_none upd_same nt
    generalize h1 : upd (upd H l (.lst [])) t (.tup [.str "abcdefghijklmnopqrstuvwxyz", .ref l]) = H1
    have s1 : Same H H1 := by
      rw [← h1]
      exact (same_new nl).trans (same_new nt)
    have hl1 : H1 l = some (.lst []) := by rw [← h1, upd_ne lt, upd_same]
    have lg : l ≠ g.f := fe.ne nl
    refine ⟨⟨_, rfl⟩, .ref g.f, rfl, g, 8, n, rfl, fe.same s1, by omega, by decide, by decide, fun d H2 d0 d1 fe2 kp2 => ?_⟩
    obtain ⟨e, rfl⟩ := Int.eq_ofNat_of_zero_le d0
    have e8 : e < 8 := by omega
    refine ⟨1, e, rfl, rfl, _, rfl, by omega, by omega, fun D nD => ?_⟩
    have tn : (1 + (e : Int)).toNat = 1 + e := by omega
    show ∃ W : Nat → Nat → Hp → Prop, _ ∧ _
    rw [tn]
    have Dg : D ≠ g.f := fe2.ne nD
    have hl2 := kp2 _ _ lg hl1
    have Dl : l ≠ D := ne_of_none hl2 nD
    refine lc_it (walk_range (lo := 0) (n := 1 + e)) (fun i H3 => ∃ m : List Nat, m.length = i ∧ Low m ∧ H3 D = some (.lst ((ones m).map V.str)) ∧ H3 l = some (.lst []) ∧ FeedAt K H3 g (n + 1 + i) ∧ Kept g.f H H3)
      ⟨[], rfl, (fun c h => by cases h), upd_same, by rw [upd_ne Dl]; exact hl2, fe2.same (same_new nD), ((Kept.of s1).trans kp2).trans (Kept.of (same_new nD))⟩ (fun _ _ _ _ => trivial) ?_ ?_
    · rintro i x H3 H4 hi ⟨m, mi, low, hD, hl3, fe3, kp3⟩ ⟨rfl, rfl⟩
      refine ⟨rfl, yes_kept ?_⟩
      refine ⟨.ref g.f, rfl, .str "abcdefghijklmnopqrstuvwxyz", rfl, g, _, n + 1 + i, rfl, fe3, by omega, .inl ⟨List.range' 97 26, alph, by decide, by decide, fun c H5 hc fe5 kp5 => ?_⟩⟩
      have hD5 := kp5 _ _ Dg hD
      refine ⟨_, hD5, ?_, m ++ [c], ?_, ?_, ?_, ?_, ?_, ?_⟩
      · rw [List.length_map, ones_len]
        exact small1000 (by omega)
      · rw [List.length_append, mi]
        rfl
      · intro x hx
        rcases List.mem_append.mp hx with hx | hx
        · exact low x hx
        · rw [List.mem_singleton.mp hx]
          have := List.mem_range'_1.mp hc
          omega
      · rw [upd_same, ones_snoc, List.map_append]
        rfl
      · rw [upd_ne Dl]
        exact kp5 _ _ lg hl3
      · exact FeedAt.put fe2 nD fe5
      · exact Kept.new (kp3.trans kp5) (Kept.none ((Kept.of s1).trans kp2) Dg nD)
    rintro H3 ⟨stem, sl, low, hD, hl3, fe3, kp3⟩
    refine ⟨tx [], D, ones stem, tx_nil ▸ rfl, rfl, .inl (SqL.of hD), ?_, ?_⟩
    · rw [ones_sum, ones_len, tx_len]
      simp
      omega
    rw [ones_join]
    -- the place, the first letter, the step
    have fit : (tx stem).length ≤ sizeLine := fit_tx (by omega)
    refine ⟨.ref g.f, rfl, .str (tx stem), rfl, .str (tx stem), stem.length, rfl, ⟨fit, (tx_len _).symm⟩, g, stem.length, n + 1 + (1 + e), rfl, fe3, by omega, by omega, Nat.lt_of_lt_of_le (show (stem.length : Int).natAbs < 2 ^ 10 by omega) (Nat.pow_le_pow_right (by decide) (by decide)), fun d2 H4 d20 d21 fe4 kp4 => ?_⟩
    obtain ⟨a, rfl⟩ := Int.eq_ofNat_of_zero_le d20
    have al : a < stem.length := by omega
    refine ⟨.ref g.f, rfl, g, 26, n + 1 + (1 + e) + 1, rfl, fe4, by omega, by decide, by decide, fun f0 H5 _ _ fe5 kp5 => ?_⟩
    refine ⟨.ref g.f, rfl, (by show 8 ≤ sizeLine; decide), fun L nL => ?_⟩
    refine ⟨g, .ref L, n + 1 + (1 + e) + 2, rfl, fe5.same (same_new nL), by omega, .inr ⟨L, [1, 3, 5, 7, 9, 11, 15, 17].map V.int, rfl, SqL.of upd_same, by decide, by decide, fun x H6 hx fe6 kp6 => ?_⟩⟩
    obtain ⟨st, hst, rfl⟩ := List.mem_map.mp hx
    refine ⟨_, _, _, rfl, ?_⟩
    have kp36 : Kept g.f H3 H6 := (kp4.trans kp5).trans ((Kept.of (same_new nL)).trans kp6)
    have hl6 := kp36 _ _ lg hl3
    have kpH6 := kp3.trans kp36
    have stb : -(2 ^ 64) < st ∧ st < 2 ^ 64 := by
      have z : st = 1 ∨ st = 3 ∨ st = 5 ∨ st = 7 ∨ st = 9 ∨ st = 11 ∨ st = 15 ∨ st = 17 := by simpa using hst
      omega
    refine ⟨.int many, rfl, many, rfl, by omega, by omega, ?_⟩
    rw [Int.toNat_natCast]
    refine for_it (walk_range (lo := 0) (n := many)) (fun j σ H7 => ∃ ns v8 v9, σ = [some (.ref g.f), some (.int many), some (.str "abcdefghijklmnopqrstuvwxyz"), some (.ref l), some (.str (tx stem)), some (.int a), some (.int f0), some (.int st), v8, v9] ∧
      H7 l = some (.lst (txs ns)) ∧ ns.length = j ∧ (∀ m ∈ ns, Nm m) ∧ (∀ i m, ns[i]? = some m → m[a]? = some (code f0 st i)) ∧ FeedAt K H7 g (n + 1 + (1 + e) + 3 + j) ∧ Kept g.f H H7) ⟨[], none, none, rfl, hl6, rfl, (fun m h => by cases h), (fun i m h => by simp at h), fe6, kpH6⟩ (fun _ _ _ _ _ => trivial) ?_ ?_
    · rintro j x σ H7 H8 hj ⟨ns, v8, v9, rfl, hl7, nsl, each, codes, fe7, kp7⟩ ⟨rfl, rfl⟩
      refine ⟨.ref g.f, rfl, g, 3, n + 1 + (1 + e) + 3 + j, rfl, fe7, by omega, by decide, by decide, fun d3 H9 _ _ fe9 kp9 => ⟨d3, 0, rfl, rfl, _, rfl, ?_⟩⟩
      have hl9 := kp9 _ _ lg hl7
      have kpH9 := kp7.trans kp9
      have low2 := low
      have toNat : (0 + (j : Int)) = (j : Int) := Int.zero_add _
      obtain ⟨z, hz⟩ := Int.eq_ofNat_of_zero_le (Int.emod_nonneg (f0 + st * (0 + (j : Int))) (b := 26) (by decide))
      have z26 : z < 26 := by
        have := Int.emod_lt_of_pos (f0 + st * (0 + (j : Int))) (b := 26) (by decide)
        omega
      have cz : 97 + z = code f0 st j := by
        unfold code
        rw [Int.zero_add] at hz
        rw [hz]
        rfl
      refine ite2 (fun c => ?_) (fun c => ?_)
      · refine ⟨.str (tx stem), rfl, .int a, rfl, a, 1, rfl, rfl, _, rfl, tx stem, rfl, fit, ?_⟩
        rw [cut_back stem a al]
        have tlow : Low (stem.drop (a + 1)) := fun x hx => low x (List.mem_of_mem_drop hx)
        have tlen : (stem.drop (a + 1)).length + a + 1 ≤ 8 := by
          rw [List.length_drop]
          omega
        generalize stem.drop (a + 1) = tl at tlow tlen
        refine ⟨.ref l, rfl, .inl ⟨rfl, _, SqL.of hl9⟩, .str (tx stem), rfl, .int a, rfl, a, rfl, tx stem, rfl, fit, ?_⟩
        rw [cut_front stem a (Nat.le_of_lt al)]
        refine ⟨.str "abcdefghijklmnopqrstuvwxyz", rfl, .int f0, rfl, .int st, rfl, .int (0 + (j : Int)), rfl, st, 0 + (j : Int), rfl, rfl, .inl stb, _, _, rfl, rfl, _, 26, rfl, rfl, (by show (0 : Int) < 26; decide), "abcdefghijklmnopqrstuvwxyz", _, 97 + z, rfl, rfl, by decide +kernel, ?_, tx (stem.take a), tx [97 + z], rfl, rfl, ?_, .str (tx tl), rfl, _, _, rfl, rfl, ?_, l, _, _, rfl, rfl, hl9, ?_, ns ++ [stem.take a ++ [97 + z] ++ tl], some (.int (0 + (j : Int))), some (.str (tx tl)), rfl, ?_, ?_, ?_, ?_, ?_, ?_⟩
        · rw [alphabet, tx_list, hz]
          exact atI_nat (by rw [List.getElem?_range' z26, Nat.one_mul])
        · rw [tx_len, tx_len, List.length_take]
          exact Nat.le_of_lt (small1000 (by show min a stem.length + 1 ≤ 1000; omega))
        · rw [tx_append, tx_len, tx_len, List.length_append, List.length_take]
          exact Nat.le_of_lt (small1000 (by show min a stem.length + 1 + tl.length ≤ 1000; omega))
        · rw [txs_len, nsl]
          exact small1000 (by omega)
        · rw [upd_same, tx_append, tx_append, txs_snoc]
        · rw [List.length_append, nsl]
          rfl
        · intro x hx
          rcases List.mem_append.mp hx with hx | hx
          · exact each x hx
          · rw [List.mem_singleton.mp hx]
            refine ⟨fun c hc => ?_, ?_, ?_⟩
            · rcases List.mem_append.mp hc with hc | hc
              · rcases List.mem_append.mp hc with hc | hc
                · exact low c (List.mem_of_mem_take hc)
                · rw [List.mem_singleton.mp hc]
                  omega
              · exact tlow c hc
            · rw [List.length_append, List.length_append]
              show 1 ≤ (stem.take a).length + 1 + tl.length
              omega
            · rw [List.length_append, List.length_append, List.length_take]
              show min a stem.length + 1 + tl.length ≤ 8
              omega
        · intro i x hx
          rcases Nat.lt_or_ge i ns.length with li | gi
          · rw [List.getElem?_append_left li] at hx
            exact codes i x hx
          · rw [List.getElem?_append_right gi] at hx
            have i0 : i - ns.length = 0 := by
              have := (List.getElem?_eq_some_iff.mp hx).1
              simp at this
              omega
            rw [i0] at hx
            have ij : i = j := by omega
            rw [← Option.some.inj hx, ij, ← cz, List.append_assoc, List.getElem?_append_right (by rw [List.length_take]; omega), List.length_take, Nat.min_eq_left (Nat.le_of_lt al), Nat.sub_self]
            rfl
        · exact FeedAt.put fe nl fe9
        · exact Kept.new kpH9 nl
      · have tlow : Low ([] : List Nat) := fun x hx => by cases hx
        have tlen : ([] : List Nat).length + a + 1 ≤ 8 := by
          show 0 + a + 1 ≤ 8
          omega
        rw [tx_nil]
        generalize ([] : List Nat) = tl at tlow tlen
        refine ⟨.ref l, rfl, .inl ⟨rfl, _, SqL.of hl9⟩, .str (tx stem), rfl, .int a, rfl, a, rfl, tx stem, rfl, fit, ?_⟩
        rw [cut_front stem a (Nat.le_of_lt al)]
        refine ⟨.str "abcdefghijklmnopqrstuvwxyz", rfl, .int f0, rfl, .int st, rfl, .int (0 + (j : Int)), rfl, st, 0 + (j : Int), rfl, rfl, .inl stb, _, _, rfl, rfl, _, 26, rfl, rfl, (by show (0 : Int) < 26; decide), "abcdefghijklmnopqrstuvwxyz", _, 97 + z, rfl, rfl, by decide +kernel, ?_, tx (stem.take a), tx [97 + z], rfl, rfl, ?_, .str (tx tl), rfl, _, _, rfl, rfl, ?_, l, _, _, rfl, rfl, hl9, ?_, ns ++ [stem.take a ++ [97 + z] ++ tl], some (.int (0 + (j : Int))), some (.str (tx tl)), rfl, ?_, ?_, ?_, ?_, ?_, ?_⟩
        · rw [alphabet, tx_list, hz]
          exact atI_nat (by rw [List.getElem?_range' z26, Nat.one_mul])
        · rw [tx_len, tx_len, List.length_take]
          exact Nat.le_of_lt (small1000 (by show min a stem.length + 1 ≤ 1000; omega))
        · rw [tx_append, tx_len, tx_len, List.length_append, List.length_take]
          exact Nat.le_of_lt (small1000 (by show min a stem.length + 1 + tl.length ≤ 1000; omega))
        · rw [txs_len, nsl]
          exact small1000 (by omega)
        · rw [upd_same, tx_append, tx_append, txs_snoc]
        · rw [List.length_append, nsl]
          rfl
        · intro x hx
          rcases List.mem_append.mp hx with hx | hx
          · exact each x hx
          · rw [List.mem_singleton.mp hx]
            refine ⟨fun c hc => ?_, ?_, ?_⟩
            · rcases List.mem_append.mp hc with hc | hc
              · rcases List.mem_append.mp hc with hc | hc
                · exact low c (List.mem_of_mem_take hc)
                · rw [List.mem_singleton.mp hc]
                  omega
              · exact tlow c hc
            · rw [List.length_append, List.length_append]
              show 1 ≤ (stem.take a).length + 1 + tl.length
              omega
            · rw [List.length_append, List.length_append, List.length_take]
              show min a stem.length + 1 + tl.length ≤ 8
              omega
        · intro i x hx
          rcases Nat.lt_or_ge i ns.length with li | gi
          · rw [List.getElem?_append_left li] at hx
            exact codes i x hx
          · rw [List.getElem?_append_right gi] at hx
            have i0 : i - ns.length = 0 := by
              have := (List.getElem?_eq_some_iff.mp hx).1
              simp at this
              omega
            rw [i0] at hx
            have ij : i = j := by omega
            rw [← Option.some.inj hx, ij, ← cz, List.append_assoc, List.getElem?_append_right (by rw [List.length_take]; omega), List.length_take, Nat.min_eq_left (Nat.le_of_lt al), Nat.sub_self]
            rfl
        · exact FeedAt.put fe nl fe9
        · exact Kept.new kpH9 nl
    · rintro σ H7 ⟨ns, v8, v9, rfl, hl7, nsl, each, codes, fe7, kp7⟩
      refine ⟨.ref l, rfl, q ns l H7 ⟨nsl, each, List.pairwise_iff_getElem.mpr fun i j hi hj ij e => ?_⟩ nl hl7 (fe7.le (by omega)) kp7⟩
      have e1 := codes i _ (List.getElem?_eq_getElem hi)
      have e2 := codes j _ (List.getElem?_eq_getElem hj)
      rw [e, e2] at e1
      exact code_ne (f := f0) hst ij (by omega) (Option.some.inj e1).symm
end
end K05
set_option Elab.async false
set_option linter.all false
set_option maxRecDepth 100000
set_option maxHeartbeats 2000000
set_option exponentiation.threshold 400
/-! The law's own hand: numbers of beats. -/
namespace K05
open PySem PySem.Spec PyProof.Rows L2 Bp
section
variable {P : Program} {w : World} {K : PySem.W.Frag} {mg : Str → Option Value} {base : Heap}
theorem scFar : FnScope ["_law_feed_here", "_law_far_here"] ["_law_feed_here"] (defScope s_law_far) := ⟨rfl, rfl, rfl, by decide +kernel, rfl, by decide +kernel, by decide +kernel⟩
def sp_far (K : PySem.W.Frag) : Sp := fun vs H Q _ => ∃ (g : Fed) (n : Nat), vs = [.ref g.f] ∧ FeedAt K H g n ∧ n ≤ 2 ^ 30 ∧ ∀ z H', 0 ≤ z → z ≤ 10 ^ 60 → FeedAt K H' g (n + 5) → Kept g.f H H' → Q (.int z) H'
theorem ok_far {f fD fP : Addr} {fd fdD fdP : FuncData} {k : Nat} (F : Fun K "_law_far" "_law_far" s_law_far f fd) (FD : Fun K "_law_draw" "_law_draw" s_law_draw fD fdD) (bD : Binds K fdD ["_law_feed_here", "_law_many"] []) (gD : mg "_law_draw" = some (.ref fD))
    (GD : Drw P w K mg base k fD fdD) (FP : Fun K "_law_pick" "_law_pick" s_law_pick fP fdP) (bP : Binds K fdP ["_law_feed_here", "_law_some"] []) (gP : mg "_law_pick" = some (.ref fP)) (GP : Pck P w K mg base k fP fdP) : FnOk P w K mg base CX0 (k + 1) f fd ["_law_feed_here"] (sp_far K) := by
  refine F.ok scFar (fun vs H Q E h => ?_) (fun cdv A outer sh H vs Q E hr h => ?_)
  · obtain ⟨g, n, rfl, _⟩ := h
    rfl
  · obtain ⟨g, n, rfl, fe, hn, q⟩ := h
    refine ⟨_, pss_cons (ps_set (i := 1) scFar.nd rfl (.inl rfl) (pe_call GP hr rfl gP FP.kp bP .nil pass0 (pa_cons (pv 0) (pa_cons (pe_lst (pa_cons pe_int (pa_cons pe_int (pa_cons (pe_op op_pow pe_int pe_int) (pa_cons (pe_op op_pow pe_int pe_int) (pa_cons (pe_op op_pow pe_int pe_int) pa_nil)))))) pa_nil))))
      (pss_one (ps_ret (pe_call GP hr rfl gP FP.kp bP .nil pass0 (pa_cons (pv 0) (pa_cons (pe_lst (pa_cons (pe_call GD hr rfl gD FD.kp bD .nil pass0 (pa_cons (pv 0) (pa_cons pe_int pa_nil)))
        (pa_cons (pe_op op_sub (pv 1) (pe_call GD hr rfl gD FD.kp bD .nil pass0 (pa_cons (pv 0) (pa_cons pe_int pa_nil)))) (pa_cons (pe_call GD hr rfl gD FD.kp bD .nil pass0 (pa_cons (pv 0) (pa_cons (pv 1) pa_nil))) pa_nil)))) pa_nil))))), ?_⟩
    refine ⟨.ref g.f, rfl, 10, 9, rfl, rfl, ⟨by decide, by decide, by decide⟩, 10, 30, rfl, rfl, ⟨by decide, by decide, by decide⟩, 10, 60, rfl, rfl, ⟨by decide, by decide, by decide⟩, (by show 5 ≤ sizeLine; decide), fun l nl => ?_⟩
    refine ⟨g, .ref l, n, rfl, fe.same (same_new nl), by omega, .inr ⟨l, _, rfl, SqL.of upd_same, (by show 0 < 5; decide), (by show 5 ≤ 1000; decide), fun x H1 hx fe1 kp1 => ?_⟩⟩
    have e9 : (10 : Int) ^ (9 : Int).toNat = 1000000000 := by decide
    have e30 : (10 : Int) ^ (30 : Int).toNat = 1000000000000000000000000000000 := by decide
    have e60 : (10 : Int) ^ (60 : Int).toNat = 1000000000000000000000000000000000000000000000000000000000000 := by decide
    obtain ⟨m, rfl, m0, m1⟩ : ∃ m : Int, x = .int m ∧ 10 ≤ m ∧ m ≤ 10 ^ 60 := by
      rcases List.mem_cons.mp hx with rfl | hx
      · exact ⟨10, rfl, by decide, by decide⟩
      rcases List.mem_cons.mp hx with rfl | hx
      · exact ⟨100, rfl, by decide, by decide⟩
      rcases List.mem_cons.mp hx with rfl | hx
      · exact ⟨_, rfl, by rw [e9]; decide, by rw [e9]; decide⟩
      rcases List.mem_cons.mp hx with rfl | hx
      · exact ⟨_, rfl, by rw [e30]; decide, by rw [e30]; decide⟩
      rcases List.mem_cons.mp hx with rfl | hx
      · exact ⟨_, rfl, by rw [e60]; decide, by rw [e60]; decide⟩
      cases hx
    have kpA := (Kept.of (f := g.f) (same_new (o := .lst [.int 10, .int 100, .int (10 ^ (9 : Int).toNat), .int (10 ^ (30 : Int).toNat), .int (10 ^ (60 : Int).toNat)]) nl)).trans kp1
    have m300 : m.natAbs < 2 ^ 300 := by
      have : m.natAbs ≤ 10 ^ 60 := by omega
      exact Nat.lt_of_le_of_lt this (by decide)
    refine ⟨.ref g.f, rfl, .ref g.f, rfl, g, 20, n + 1, rfl, fe1, by omega, by decide, by decide, fun d1 H2 d10 d11 fe2 kp2 => ?_⟩
    refine ⟨.int m, rfl, .ref g.f, rfl, g, 3, n + 1 + 1, rfl, fe2, by omega, by decide, by decide, fun d2 H3 d20 d21 fe3 kp3 => ⟨m, d2, rfl, rfl, ?_⟩⟩
    refine ⟨.ref g.f, rfl, .int m, rfl, g, m, n + 1 + 1 + 1, rfl, fe3, by omega, by omega, m300, fun d3 H4 d30 d31 fe4 kp4 => ?_⟩
    refine ⟨(by show 3 ≤ sizeLine; decide), fun l2 nl2 => ?_⟩
    refine ⟨g, .ref l2, n + 4, rfl, fe4.same (same_new nl2), by omega, .inr ⟨l2, _, rfl, SqL.of upd_same, (by show 0 < 3; decide), (by show 3 ≤ 1000; decide), fun x H5 hx fe5 kp5 => ?_⟩⟩
    have kpB := kpA.trans (kp2.trans (kp3.trans (kp4.trans ((Kept.of (same_new nl2)).trans kp5))))
    rcases List.mem_cons.mp hx with rfl | hx
    · exact q _ _ d10 (by omega) fe5 kpB
    rcases List.mem_cons.mp hx with rfl | hx
    · exact q _ _ (by omega) (by omega) fe5 kpB
    rcases List.mem_cons.mp hx with rfl | hx
    · exact q _ _ d30 (by omega) fe5 kpB
    cases hx
end
end K05
set_option Elab.async false
set_option linter.all false
set_option maxRecDepth 100000
set_option maxHeartbeats 2000000
set_option exponentiation.threshold 400
/-! The law's own hand: tables. -/
namespace K05
open PySem PySem.Spec PyProof.Rows L2 Bp
theorem map_erase {α β : Type} (g : α → β) : ∀ (l : List α) (i : Nat), (l.map g).eraseIdx i = (l.eraseIdx i).map g
  | [], _ => rfl
  | _ :: _, 0 => rfl
  | x :: l, i + 1 => by
    rw [List.map_cons, List.eraseIdx_cons_succ, List.eraseIdx_cons_succ, List.map_cons, map_erase g l i]
theorem signs_ones (l : List Nat) : signsS (tx l) = ones l := by
  unfold signsS ones
  rw [tx_list]
  rfl
section
variable {P : Program} {w : World} {K : PySem.W.Frag} {mg : Str → Option Value} {base : Heap}
abbrev NsT : List Str := ["_law_feed_here", "_law_signs_here", "_law_found", "_law_is_plain", "_law_k", "_law_left", "_law_row", "_law_turn"]
theorem scTable : FnScope NsT ["_law_feed_here", "_law_signs_here"] (defScope s_law_table) := ⟨rfl, rfl, rfl, by decide +kernel, rfl, by decide +kernel, by decide +kernel⟩
def RowOk (s m : List Nat) : Prop := m.length = s.length ∧ ∀ c ∈ m, c ∈ s
def sp_table (K : PySem.W.Frag) : Sp := fun vs H Q _ => ∃ (g : Fed) (s : List Nat) (n : Nat), vs = [.ref g.f, .str (tx s)] ∧ K33.Signs s ∧ FeedAt K H g n ∧ n ≤ 2 ^ 30 ∧
  ∀ rows T H', rows.length = s.length → (∀ m ∈ rows, RowOk s m) → H T = none → H' T = some (.tup (txs rows)) → FeedAt K H' g (n + 20) → Kept g.f H H' → Q (.ref T) H'
theorem ok_table {f fD fP : Addr} {fd fdD fdP : FuncData} {k : Nat} (B : Blt mg) (F : Fun K "_law_table" "_law_table" s_law_table f fd) (FD : Fun K "_law_draw" "_law_draw" s_law_draw fD fdD) (bD : Binds K fdD ["_law_feed_here", "_law_many"] []) (gD : mg "_law_draw" = some (.ref fD))
    (GD : Drw P w K mg base k fD fdD) (FP : Fun K "_law_pick" "_law_pick" s_law_pick fP fdP) (bP : Binds K fdP ["_law_feed_here", "_law_some"] []) (gP : mg "_law_pick" = some (.ref fP)) (GP : Pck P w K mg base k fP fdP) : FnOk P w K mg base CX0 (k + 1) f fd ["_law_feed_here", "_law_signs_here"] (sp_table K) := by
  refine F.ok scTable (fun vs H Q E h => ?_) (fun cdv A outer sh H vs Q E hr h => ?_)
  · obtain ⟨g, s, n, rfl, _⟩ := h
    rfl
  · obtain ⟨g, s, n, rfl, hs, fe, hn, q⟩ := h
    refine ⟨_, pss_cons (ps_par (i := 2) (j := 3) rfl scTable.nd rfl rfl (by decide) rfl rfl (pa_cons (pe_lst pa_nil) (pa_cons (pe_cmpR op_eq (pe_call GD hr rfl gD FD.kp bD .nil pass0 (pa_cons (pv 0) (pa_cons pe_int pa_nil))) pe_int (nomark _)) pa_nil)) (by rfl))
      (pss_cons (ps_for PassesOwn.never rfl (pi_range1 (by rfl) B.rng (pa_cons (pe_callB call_len (by rfl) B.len PySem.boot_len (pa_cons (pv 1) pa_nil)) pa_nil)) (pg_name (i := 4) scTable.nd rfl (Or.inl rfl))
        (pss_cons (ps_if (pt_val (pv 3))
          (pss_cons (ps_par (i := 5) (j := 6) rfl scTable.nd rfl rfl (by decide) rfl rfl (pa_cons (pe_callTy (call_list_text rfl) (by rfl) B.list (by decide +kernel) (pa_cons (pv 1) pa_nil)) (pa_cons pe_str pa_nil)) (by rfl))
          (pss_one (ps_for PassesOwn.never rfl (pi_range1 (by rfl) B.rng (pa_cons (pe_callB call_len (by rfl) B.len PySem.boot_len (pa_cons (pv 1) pa_nil)) pa_nil)) (pg_name (i := 7) scTable.nd rfl (Or.inl rfl))
            (pss_one (ps_set (i := 6) scTable.nd rfl (.inl rfl) (pe_op op_add_str (pv 6) (pe_bm PySem.F.plainAttrs_list PySem.F.slot_list_pop PySem.F.type_list_pop mt_popAt (pv 5)
              (pa_cons (pe_call GD hr rfl gD FD.kp bD .nil pass0 (pa_cons (pv 0) (pa_cons (pe_callB call_len (by rfl) B.len PySem.boot_len (pa_cons (pv 5) pa_nil)) pa_nil))) pa_nil))))))))
          (pss_one (ps_set (i := 6) scTable.nd rfl (.inl rfl) (pe_join pe_str (pe_lc (own := [("_law_turn", 7)]) (g := gName 7) (tt := tYes) rfl scTable.nd (pi_range1 (by rfl) B.rng (pa_cons (pe_callB call_len (by rfl) B.len PySem.boot_len (pa_cons (pv 1) pa_nil)) pa_nil))
            (blkOk_by (own := [("_law_turn", 7)]) (N := NsT) (sc := defScope s_law_table) (by decide +kernel)) (fun _ _ _ _ _ => pg_name (i := 7) scTable.nd rfl (Or.inl rfl)) (fun _ _ _ _ _ => pts_nil) (fun _ _ _ _ _ => pe_call GP hr rfl gP FP.kp bP .nil pass0 (pa_cons (pv 0) (pa_cons (pv 1) pa_nil))))))))
        (pss_one (ps_expr (pe_bm PySem.F.plainAttrs_list PySem.F.slot_list_append PySem.F.type_list_append mt_append (pv 2) (pa_cons (pv 6) pa_nil))))))
      (pss_one (ps_ret (pe_callTy call_tuple_of (by rfl) B.tuple (by decide +kernel) (pa_cons (pv 2) pa_nil))))), ?_⟩
    have s4 := hs.hi
    have s2 := hs.lo
    have fit : (tx s).length ≤ sizeLine := fit_tx (by omega)
    refine ⟨(by show 0 ≤ sizeLine; decide), fun l nl => ?_⟩
    have lg : l ≠ g.f := fe.ne nl
    refine ⟨.ref g.f, rfl, g, 3, n, rfl, fe.same (same_new nl), by omega, by decide, by decide, fun d H1 _ _ fe1 kp1 => ⟨rfl, _, _, rfl, ?_⟩⟩
    have hl1 := kp1 _ _ lg (upd_same (H := H) (a := l) (o := .lst []))
    have kpH1 : Kept g.f H H1 := (Kept.of (same_new nl)).trans kp1
    generalize decide (V.int d = V.int 0) = pl
    refine ⟨.str (tx s), rfl, .str (tx s), s.length, rfl, ⟨fit, (tx_len s).symm⟩, s.length, rfl, by omega, by omega, ?_⟩
    rw [Int.toNat_natCast]
    refine for_it (walk_range (lo := 0) (n := s.length)) (fun i σ H2 => ∃ rows v4 v5 v6 v7, σ = [some (.ref g.f), some (.str (tx s)), some (.ref l), some (.bl pl), v4, v5, v6, v7] ∧ H2 l = some (.lst (txs rows)) ∧ rows.length = i ∧ (∀ m ∈ rows, RowOk s m) ∧ FeedAt K H2 g (n + 1 + 4 * i) ∧ Kept g.f H H2)
      ⟨[], none, none, none, none, rfl, hl1, rfl, (fun m h => by cases h), fe1, kpH1⟩ (fun _ _ _ _ _ => trivial) ?_ ?_
    · rintro i x σ H2 H2' hi ⟨rows, v4, v5, v6, v7, rfl, hl2, rl, each, fe2, kp2⟩ ⟨rfl, rfl⟩
      have app : ∀ (row : List Nat) (H5 : Hp), RowOk s row → H5 l = some (.lst (txs rows)) → (txs rows).length < sizeLine ∧ ∀ m ∈ rows ++ [row], RowOk s m := fun row H5 ro e => by
        refine ⟨by rw [txs_len, rl]; exact small1000 (by omega), fun m hm => ?_⟩
        rcases List.mem_append.mp hm with hm | hm
        · exact each m hm
        · rw [List.mem_singleton.mp hm]
          exact ro
      refine ⟨.bl pl, rfl, pl, rfl, ?_⟩
      cases pl with
      | true =>
        refine iteT ?_
        refine ⟨.str (tx s), rfl, tx s, rfl, fit, fun l2 nl2 => ?_⟩
        rw [signs_ones]
        have l2g : l2 ≠ g.f := fe2.ne nl2
        have l2l : l ≠ l2 := ne_of_none hl2 nl2
        refine ⟨_, _, rfl, .str (tx s), rfl, .str (tx s), s.length, rfl, ⟨fit, (tx_len s).symm⟩, s.length, rfl, by omega, by omega, ?_⟩
        rw [Int.toNat_natCast]
        refine for_it (walk_range (lo := 0) (n := s.length)) (fun j σ H3 => ∃ acc rest v, σ = [some (.ref g.f), some (.str (tx s)), some (.ref l), some (.bl true), some (.int (0 + (i : Int))), some (.ref l2), some (.str (tx acc)), v] ∧ H3 l2 = some (.lst ((ones rest).map V.str)) ∧
          acc.length = j ∧ rest.length + j = s.length ∧ (∀ c ∈ acc, c ∈ s) ∧ (∀ c ∈ rest, c ∈ s) ∧ H3 l = some (.lst (txs rows)) ∧ FeedAt K H3 g (n + 1 + 4 * i + j) ∧ Kept g.f H H3)
          ⟨[], s, v7, by rw [← tx_nil]; rfl, upd_same, rfl, rfl, (fun c h => by cases h), fun _ h => h, by rw [upd_ne l2l]; exact hl2, fe2.same (same_new nl2), kp2.trans (Kept.of (same_new nl2))⟩ (fun _ _ _ _ _ => trivial) ?_ ?_
        · rintro j x σ H3 H3' hj ⟨acc, rest, v, rfl, hl3, al, rl3, ha, hrst, hlk, fe3, kp3⟩ ⟨rfl, rfl⟩
          have r0 : 0 < rest.length := by omega
          refine ⟨.str (tx acc), rfl, .ref l2, rfl, .inl ⟨rfl, _, SqL.of hl3⟩, .ref g.f, rfl, .ref l2, rfl, .ref l2, rest.length, rfl, .inl ⟨_, SqL.of hl3, by rw [List.length_map, ones_len]⟩, g, rest.length, n + 1 + 4 * i + j, rfl, fe3, by omega, by omega, Nat.lt_of_lt_of_le (show (rest.length : Int).natAbs < 2 ^ 10 by omega) (Nat.pow_le_pow_right (by decide) (by decide)), fun d3 H4 d0 d1 fe4 kp4 => ?_⟩
          obtain ⟨z, rfl⟩ := Int.eq_ofNat_of_zero_le d0
          have zl : z < rest.length := by omega
          have hl4 := kp4 _ _ l2g hl3
          have gt : ((ones rest).map V.str)[z]? = some (.str (tx [rest[z]])) := by
            unfold ones
            rw [List.map_map, List.getElem?_map, List.getElem?_eq_getElem zl]
            rfl
          refine ⟨l2, _, z, z, .str (tx [rest[z]]), rfl, rfl, hl4, by omega, by omega, ?_, gt, tx acc, tx [rest[z]], rfl, rfl, ?_, acc ++ [rest[z]], rest.eraseIdx z, some (.int (0 + (j : Int))), ?_, ?_, ?_, ?_, ?_, ?_, ?_, ?_, ?_⟩
          · rw [List.length_map, ones_len]
            refine (ixN_seq ?_).1
            unfold ixN
            rw [if_pos (by omega), if_pos (by omega)]
            simp
          · rw [tx_len, tx_len]
            exact Nat.le_of_lt (small1000 (by show acc.length + 1 ≤ 1000; omega))
          · rw [tx_append]
            rfl
          · rw [upd_same]
            unfold ones
            rw [List.map_map, List.map_map, map_erase]
          · rw [List.length_append, al]
            rfl
          · rw [List.length_eraseIdx_of_lt zl]
            omega
          · intro c hc
            rcases List.mem_append.mp hc with hc | hc
            · exact ha c hc
            · rw [List.mem_singleton.mp hc]
              exact hrst _ (List.getElem_mem zl)
          · intro c hc
            exact hrst c (List.mem_of_mem_eraseIdx hc)
          · rw [upd_ne l2l]
            exact kp4 _ _ lg hlk
          · exact FeedAt.put fe2 nl2 fe4
          · exact Kept.new (kp3.trans kp4) (Kept.none kp2 l2g nl2)
        · rintro σ H3 ⟨acc, rest, v, rfl, hl3, al, rl3, ha, hrst, hlk, fe3, kp3⟩
          obtain ⟨few, all⟩ := app acc H3 ⟨al, ha⟩ hlk
          refine ⟨.ref l, rfl, .inl ⟨rfl, _, SqL.of hlk⟩, .str (tx acc), rfl, l, _, _, rfl, rfl, hlk, few, rows ++ [acc], _, _, _, _, rfl, by rw [upd_same, txs_snoc], by rw [List.length_append, rl]; rfl, all, FeedAt.put fe nl (fe3.le (by omega)), Kept.new kp3 nl⟩
      | false =>
        refine iteF ?_
        refine ⟨⟨_, rfl⟩, .str (tx s), rfl, .str (tx s), s.length, rfl, ⟨fit, (tx_len s).symm⟩, s.length, rfl, by omega, by omega, fun D nD => ?_⟩
        rw [Int.toNat_natCast]
        have Dg : D ≠ g.f := fe2.ne nD
        have Dl : l ≠ D := ne_of_none hl2 nD
        refine lc_it (walk_range (lo := 0) (n := s.length)) (fun j H3 => ∃ m : List Nat, m.length = j ∧ (∀ c ∈ m, c ∈ s) ∧ H3 D = some (.lst ((ones m).map V.str)) ∧ H3 l = some (.lst (txs rows)) ∧ FeedAt K H3 g (n + 1 + 4 * i + j) ∧ Kept g.f H H3)
          ⟨[], rfl, (fun c h => by cases h), upd_same, by rw [upd_ne Dl]; exact hl2, fe2.same (same_new nD), kp2.trans (Kept.of (same_new nD))⟩ (fun _ _ _ _ => trivial) ?_ ?_
        · rintro j x H3 H3' hj ⟨m, mi, hm, hD, hlk, fe3, kp3⟩ ⟨rfl, rfl⟩
          refine ⟨rfl, yes_kept ?_⟩
          refine ⟨.ref g.f, rfl, .str (tx s), rfl, g, .str (tx s), n + 1 + 4 * i + j, rfl, fe3, by omega, .inl ⟨s, rfl, by omega, by omega, fun c H4 hc fe4 kp4 => ?_⟩⟩
          have hD4 := kp4 _ _ Dg hD
          refine ⟨_, hD4, ?_, m ++ [c], ?_, ?_, ?_, ?_, ?_, ?_⟩
          · rw [List.length_map, ones_len]
            exact small1000 (by omega)
          · rw [List.length_append, mi]
            rfl
          · intro d hd
            rcases List.mem_append.mp hd with hd | hd
            · exact hm d hd
            · rw [List.mem_singleton.mp hd]
              exact hc
          · rw [upd_same, ones_snoc, List.map_append]
            rfl
          · rw [upd_ne Dl]
            exact kp4 _ _ lg hlk
          · exact FeedAt.put fe2 nD fe4
          · exact Kept.new (kp3.trans kp4) (Kept.none kp2 Dg nD)
        · rintro H3 ⟨m, mi, hm, hD, hlk, fe3, kp3⟩
          refine ⟨tx [], D, ones m, tx_nil ▸ rfl, rfl, .inl (SqL.of hD), ?_, ?_⟩
          · rw [ones_sum, ones_len, tx_len]
            simp
            omega
          · rw [ones_join]
            obtain ⟨few, all⟩ := app m H3 ⟨mi, hm⟩ hlk
            refine ⟨.ref l, rfl, .inl ⟨rfl, _, SqL.of hlk⟩, .str (tx m), rfl, l, _, _, rfl, rfl, hlk, few, rows ++ [m], _, _, _, _, rfl, by rw [upd_same, txs_snoc], by rw [List.length_append, rl]; rfl, all, FeedAt.put fe nl (fe3.le (by omega)), Kept.new kp3 nl⟩
    · rintro σ H2 ⟨rows, v4, v5, v6, v7, rfl, hl2, rl, each, fe2, kp2⟩
      refine ⟨.ref l, rfl, l, txs rows, rfl, .inl ⟨SqL.of hl2, fun T nT => ?_⟩⟩
      exact q rows T _ rl each (Kept.none kp2 (fe2.ne nT) nT) upd_same ((fe2.le (by omega)).same (same_new nT)) (kp2.trans (Kept.of (same_new nT)))
end
end K05
set_option Elab.async false
set_option linter.all false
set_option maxRecDepth 100000
set_option maxHeartbeats 2000000
/-! The law's own hand: how many beats have x. -/
namespace K05
open PySem PySem.Spec PyProof.Rows L2 Bp
def spotsL (m : List Nat) (n : Nat) : List Int := ((List.range n).filter fun i => decide (m.getD i 0 = 120)).map fun i : Nat => (i : Int)
theorem spotsL_succ (m : List Nat) (n : Nat) : spotsL m (n + 1) = if m.getD n 0 = 120 then spotsL m n ++ [(n : Int)] else spotsL m n := by
  unfold spotsL
  rw [List.range_succ, List.filter_append]
  by_cases h : m.getD n 0 = 120
  · rw [if_pos h, List.map_append, List.filter_cons, if_pos (show decide (m.getD n 0 = 120) = true from decide_eq_true h), List.filter_nil]
    rfl
  · rw [if_neg h, List.filter_cons, if_neg (show ¬ decide (m.getD n 0 = 120) = true from fun z => h (of_decide_eq_true z)), List.filter_nil, List.append_nil]
theorem spotsL_few (m : List Nat) (n : Nat) : (spotsL m n).length ≤ n := by
  unfold spotsL
  rw [List.length_map]
  refine Nat.le_trans (List.length_filter_le _ _) ?_
  rw [List.length_range]
  exact Nat.le_refl _
def beatsL (m : List Nat) (last : Int) : Int := last / (m.length : Int) * ((spotsL m m.length).length : Int) + (((spotsL m m.length).filter fun x => decide (x < last % (m.length : Int))).length : Int)
section
variable {P : Program} {w : World} {K : PySem.W.Frag} {mg : Str → Option Value} {base : Heap}
abbrev NsB : List Str := ["_law_bar", "_law_last", "_law_spots", "_law_k"]
theorem scBeats : FnScope NsB ["_law_bar", "_law_last"] (defScope s_law_beats_with) := ⟨rfl, rfl, rfl, by decide +kernel, rfl, by decide +kernel, by decide +kernel⟩
def sp_beats : Sp := fun vs H Q _ => ∃ (m : List Nat) (last : Int), vs = [.str (tx m), .int last] ∧ RhythmOk m ∧ ∀ H', Same H H' → Q (.int (beatsL m last)) H'
theorem ok_beats {f : Addr} {fd : FuncData} {k : Nat} (B : Blt mg) (F : Fun K "_law_beats_with" "_law_beats_with" s_law_beats_with f fd) : FnOk P w K mg base CX0 (k + 1) f fd ["_law_bar", "_law_last"] sp_beats := by
  refine F.ok scBeats (fun vs H Q E h => ?_) (fun cdv A outer sh H vs Q E hr h => ?_)
  · obtain ⟨m, last, rfl, _⟩ := h
    rfl
  · obtain ⟨m, last, rfl, ok, q⟩ := h
    refine ⟨_, pss_cons (ps_setLc (i := 2) (own := [("_law_k", 3)]) (g := gName 3) rfl scBeats.nd rfl rfl (by rfl) (pi_range1 (by rfl) B.rng (pa_cons (pe_callB call_len (by rfl) B.len PySem.boot_len (pa_cons (pv 0) pa_nil)) pa_nil)) (blkOk_by (own := [("_law_k", 3)]) (N := NsB) (sc := defScope s_law_beats_with) (by decide +kernel))
        (fun _ _ _ _ _ => pg_name (i := 3) scBeats.nd rfl (Or.inl rfl)) (fun _ _ _ _ _ => pts_one (pt_cmpR op_eq (pe_ix ix_str (pv 0) (pv 3) (fun _ _ => rfl)) pe_str (nomark _))) (fun _ _ _ _ _ => pv 3))
      (pss_one (ps_ret (pe_op op_add (pe_op op_mul (pe_op op_fdivW (pv 1) (pe_callB call_len (by rfl) B.len PySem.boot_len (pa_cons (pv 0) pa_nil))) (pe_callB call_len (by rfl) B.len PySem.boot_len (pa_cons (pv 2) pa_nil)))
        (pe_callB call_len (by rfl) B.len PySem.boot_len (pa_cons (pe_lc (own := [("_law_k", 3)]) (g := gName 3) rfl scBeats.nd (pi_list (pv 2)) (blkOk_by (own := [("_law_k", 3)]) (N := NsB) (sc := defScope s_law_beats_with) (by decide +kernel))
          (fun _ _ _ _ _ => pg_name (i := 3) scBeats.nd rfl (Or.inl rfl)) (fun _ _ _ _ _ => pts_one (pt_cmpR op_lt (pv 3) (pe_op op_mod (pv 1) (pe_callB call_len_str (by rfl) B.len PySem.boot_len (pa_cons (pv 0) pa_nil))) (nomark _))) (fun _ _ _ _ _ => pv 3)) pa_nil))))), ?_⟩
    have lo := ok.lo
    have hi := ok.hi
    have fit : (tx m).length ≤ sizeLine := fit_tx (by omega)
    have few := spotsL_few m m.length
    refine ⟨.str (tx m), rfl, .str (tx m), m.length, rfl, ⟨fit, (tx_len m).symm⟩, m.length, rfl, by omega, by omega, fun D nD => ?_⟩
    rw [Int.toNat_natCast]
    refine lc_v (walk_range (lo := 0) (n := m.length)) (fun _ _ => trivial) (fun j _ l => l = (spotsL m j).map V.int) (fun _ => rfl) (fun j _ l hj e => ?_) (fun _ _ _ _ _ e => e) nD ?_ ?_
    · rw [e, List.length_map]
      have := spotsL_few m j
      omega
    · rintro j x H1 H2 l Qy Qn hj sm hl ⟨rfl, rfl⟩ qy qn
      have step := spotsL_succ m j
      have get : m.getD j 0 = m[j] := by
        rw [List.getD_eq_getElem?_getD, List.getElem?_eq_getElem hj]
        rfl
      refine ⟨rfl, .str (tx m), rfl, .int (0 + (j : Int)), rfl, tx m, _, m[j], rfl, rfl, fit, ?_, rfl, _, rfl, ?_⟩
      · rw [tx_list, Int.zero_add]
        exact atI_nat (List.getElem?_eq_getElem hj)
      · by_cases c : m[j] = 120
        · refine yesOf (decide_eq_true (by rw [c]; rfl)) ?_
          rw [if_pos (by rw [get]; exact c)] at step
          refine ⟨.int (0 + (j : Int)), rfl, qy _ _ (Same.refl _) ?_⟩
          rw [hl, step, List.map_append, Int.zero_add]
          rfl
        · have ne : ¬ V.str ⟨#[m[j]]⟩ = V.str "x" := fun h => c (List.singleton_inj.mp (tx_inj (a := [m[j]]) (b := [120]) (V.str.inj h)))
          refine noOf (decide_eq_false ne) ?_
          rw [if_neg (by rw [get]; exact c)] at step
          exact qn _ (Same.refl _) (by rw [hl, step])
    · intro H1 l s1 hl hD
      rw [hl] at hD
      refine ⟨.int last, rfl, .str (tx m), rfl, .str (tx m), m.length, rfl, ⟨fit, (tx_len m).symm⟩, last, m.length, rfl, rfl, wide_div (by omega) (b := 40) (by rw [Int.natAbs_natCast]; omega) (by decide) (by decide), ?_⟩
      refine ⟨.ref D, rfl, .ref D, (spotsL m m.length).length, rfl, .inl ⟨_, SqL.of hD, (List.length_map _).symm⟩, _, _, rfl, rfl, .inr ⟨by omega, by omega⟩, ?_⟩
      refine ⟨.ref D, rfl, D, rfl, ⟨_, SqL.of hD⟩, fun D2 nD2 => ?_⟩
      refine lc_v (walk_list (K := K) (a := D) (xs := (spotsL m m.length).map V.int)) (fun H2 sm => SqL.of (sm _ _ hD)) (fun j _ r => r = (((spotsL m m.length).take j).filter fun x => decide (x < last % (m.length : Int))).map V.int) (fun _ => rfl) (fun j _ r _ e => ?_) (fun _ _ _ _ _ e => e) nD2 ?_ ?_
      · rw [e, List.length_map]
        have := List.length_filter_le (fun x => decide (x < last % (m.length : Int))) ((spotsL m m.length).take j)
        rw [List.length_take] at this
        omega
      · rintro j x H2 H3 r Qy Qn hj sm hr2 ⟨rfl, hx⟩ qy qn
        obtain ⟨n, en, rfl⟩ : ∃ n, (spotsL m m.length)[j]? = some n ∧ x = .int n := by
          rw [List.getElem?_map] at hx
          cases e : (spotsL m m.length)[j]? with
          | none =>
            rw [e] at hx
            cases hx
          | some n =>
            rw [e] at hx
            exact ⟨n, rfl, (Option.some.inj hx).symm⟩
        refine ⟨rfl, .int n, rfl, .int last, rfl, .str (tx m), rfl, tx m, rfl, fit, last, ((tx m).length : Nat), rfl, rfl, (by show (0 : Int) < ((tx m).length : Int); rw [tx_len]; omega), _, _, rfl, rfl, _, rfl, ?_⟩
        have el : ((tx m).length : Int) = (m.length : Int) := by rw [tx_len]
        by_cases c : n < last % (m.length : Int)
        · refine yesOf (decide_eq_true (by rw [el]; exact c)) ?_
          refine ⟨.int n, rfl, qy _ _ (Same.refl _) ?_⟩
          rw [hr2, List.take_add_one, en, List.filter_append, List.map_append]
          simp [c]
        · refine noOf (decide_eq_false (by rw [el]; exact c)) ?_
          refine qn _ (Same.refl _) ?_
          rw [hr2, List.take_add_one, en, List.filter_append]
          simp [c]
      · intro H2 r s2 hr2 hD2
        rw [hr2, List.length_map, List.take_length] at hD2
        refine ⟨.ref D2, _, rfl, .inl ⟨_, SqL.of hD2, (List.length_map _).symm⟩, _, _, rfl, rfl, ?_⟩
        exact q H2 (s1.trans s2)
end
end K05
set_option Elab.async false
set_option linter.all false
set_option maxRecDepth 100000
set_option maxHeartbeats 2000000
set_option exponentiation.threshold 400
/-! The law's own hand: works as they are drawn. -/
namespace K05
open PySem PySem.Spec PyProof.Rows L2 Bp
def RBand : Hp → V → BandL → Prop := fun H v b => ∃ t, v = .ref t ∧ H t = some (.tup [.str (tx b.name), .int b.long, .int b.pace])
theorem RBand.kn {H H' : Hp} (k : Kn H H') : ∀ v b, RBand H v b → RBand H' v b := fun v b ⟨t, e, h⟩ => ⟨t, e, k _ _ (by intro xs z; cases z) h⟩
def RStamp : Hp → V → PressL → Prop := fun H v r => ∃ t a b tb, v = .ref t ∧ H t = some (.tup [.ref a, .ref b, .ref tb, .str (tx r.rhythm)]) ∧ PressAt H a b tb r
theorem RStamp.kn {H H' : Hp} (k : Kn H H') : ∀ v r, RStamp H v r → RStamp H' v r := fun v r ⟨t, a, b, tb, e, h, p⟩ => ⟨t, a, b, tb, e, k _ _ (by intro xs z; cases z) h, p.kn k⟩
/-- all that is no list and no dict stays -/
def Kt (H H' : Hp) : Prop := ∀ b o, (∀ xs, o ≠ HO.lst xs) → (∀ kvs, o ≠ HO.dK kvs) → H b = some o → H' b = some o
theorem Kt.of {H H' : Hp} (s : Same H H') : Kt H H' := fun b o _ _ e => s b o e
theorem Kt.kn {H H' : Hp} (s : Kn H H') : Kt H H' := fun b o n _ e => s b o n e
theorem Kt.trans {H H1 H2 : Hp} (a : Kt H H1) (b : Kt H1 H2) : Kt H H2 := fun c o n m e => b c o n m (a c o n m e)
theorem Kt.kept {K : PySem.W.Frag} {H H' : Hp} {g : Fed} {n : Nat} (f : FeedAt K H g n) (k : Kept g.f H H') : Kt H H' := fun b o _ m e => by
  obtain ⟨kvs, ek⟩ := f.dict
  refine k b o (fun z => ?_) e
  rw [z, ek] at e
  exact m _ (Option.some.inj e).symm
theorem RBand.kt {H H' : Hp} (k : Kt H H') : ∀ v b, RBand H v b → RBand H' v b := fun v b ⟨t, e, h⟩ => ⟨t, e, k _ _ (by intro xs z; cases z) (by intro xs z; cases z) h⟩
theorem IsPlace.kt {H H' : Hp} (k : Kt H H') {t : Addr} {s : PlaceL} (h : IsPlace H t s) : IsPlace H' t s := k _ _ (by intro xs z; cases z) (by intro xs z; cases z) h
theorem RPlace.kt {H H' : Hp} (k : Kt H H') : ∀ v s, RPlace H v s → RPlace H' v s := fun v s ⟨t, e, h⟩ => ⟨t, e, h.kt k⟩
theorem PressAt.kt {H H' : Hp} {a b t : Addr} {r : PressL} (h : PressAt H a b t r) (k : Kt H H') : PressAt H' a b t r := ⟨h.ab.kt k, h.be.kt k, k _ _ (by intro xs z; cases z) (by intro xs z; cases z) h.tb⟩
theorem RStamp.kt {H H' : Hp} (k : Kt H H') : ∀ v r, RStamp H v r → RStamp H' v r := fun v r ⟨t, a, b, tb, e, h, p⟩ => ⟨t, a, b, tb, e, k _ _ (by intro xs z; cases z) (by intro xs z; cases z) h, p.kt k⟩
theorem Each.append {α : Type} {R : Hp → V → α → Prop} {H : Hp} {l m : List V} {xs ys : List α} (h1 : Each R H l xs) (h2 : Each R H m ys) : Each R H (l ++ m) (xs ++ ys) := by
  refine ⟨by rw [List.length_append, List.length_append, h1.1, h2.1], fun i v x e1 e2 => ?_⟩
  rcases Nat.lt_or_ge i l.length with lt | ge
  · rw [List.getElem?_append_left lt] at e1
    rw [List.getElem?_append_left (by rw [← h1.1]; exact lt)] at e2
    exact h1.2 i v x e1 e2
  · rw [List.getElem?_append_right ge] at e1
    rw [List.getElem?_append_right (by rw [← h1.1]; exact ge), ← h1.1] at e2
    exact h2.2 _ v x e1 e2
theorem kept_put {f D : Addr} {H0 H : Hp} {o : HO} (k : Kept f H0 H) (n : H0 D = none) : Kept f H0 (upd H D o) := fun b u nb e => by
  rw [upd_ne (ne_of_none e n)]
  exact k b u nb e
theorem sum_snoc (bs : List BandL) (b : BandL) : ((bs ++ [b]).map (·.long)).sum = (bs.map (·.long)).sum + b.long := by
  rw [List.map_append, List.sum_append]
  simp
/-- what the first loop keeps -/
structure Half (K : PySem.W.Frag) (H0 : Hp) (g : Fed) (tz ln lb lq lp : Addr) (zs : List V) (ns : List (List Nat)) (i N : Nat) (H : Hp) (bs : List BandL) : Prop where
  len : bs.length = i
  nms : bs.map (·.name) = ns.take i
  ok : ∀ b ∈ bs, b.Ok
  room : (bs.map (·.long)).sum + (ns.length - i) ≤ 40
  hb : ∃ l, H lb = some (.lst l) ∧ Each RBand H l bs
  hq : ∃ q, H lq = some (.lst q) ∧ Places H q (placesL bs)
  hp : H lp = some (.lst [])
  hn : H ln = some (.lst (txs ns))
  hz : H tz = some (.tup zs)
  qb : lq ≠ lb
  qp : lq ≠ lp
  fe : FeedAt K H g N
  kp : Kept g.f H0 H
theorem w_sb : ¬ (("signs" : Str) = "bands") := by decide +kernel
theorem w_sp : ¬ (("signs" : Str) = "presses") := by decide +kernel
theorem w_bp : ¬ (("bands" : Str) = "presses") := by decide +kernel
theorem w_sl : ¬ (("signs" : Str) = "places") := by decide +kernel
theorem w_bl : ¬ (("bands" : Str) = "places") := by decide +kernel
theorem w_pl : ¬ (("presses" : Str) = "places") := by decide +kernel
theorem raw_merge (s : List Nat) (lb lp lq : Addr) : mergeK [] ([(.inr "signs", .str (tx s)), (.inr "bands", .ref lb), (.inr "presses", .ref lp), (.inr "places", .ref lq)] : List (Key × V)) = [(.inr "signs", .str (tx s)), (.inr "bands", .ref lb), (.inr "presses", .ref lp), (.inr "places", .ref lq)] := by
  have e1 : putK ([] : List (Key × V)) (.inr "signs") (.str (tx s)) = [(.inr "signs", .str (tx s))] := putK_new _ rfl
  have e2 : putK ([(.inr "signs", .str (tx s))] : List (Key × V)) (.inr "bands") (.ref lb) = [(.inr "signs", .str (tx s)), (.inr "bands", .ref lb)] := putK_new _ (by rw [valV_neg (inr_ne w_sb)]; rfl)
  have e3 : putK ([(.inr "signs", .str (tx s)), (.inr "bands", .ref lb)] : List (Key × V)) (.inr "presses") (.ref lp) = [(.inr "signs", .str (tx s)), (.inr "bands", .ref lb), (.inr "presses", .ref lp)] := putK_new _ (by rw [valV_neg (inr_ne w_sp), valV_neg (inr_ne w_bp)]; rfl)
  have e4 : putK ([(.inr "signs", .str (tx s)), (.inr "bands", .ref lb), (.inr "presses", .ref lp)] : List (Key × V)) (.inr "places") (.ref lq) = [(.inr "signs", .str (tx s)), (.inr "bands", .ref lb), (.inr "presses", .ref lp), (.inr "places", .ref lq)] := putK_new _ (by rw [valV_neg (inr_ne w_sl), valV_neg (inr_ne w_bl), valV_neg (inr_ne w_pl)]; rfl)
  show putK (putK (putK (putK ([] : List (Key × V)) (.inr "signs") (.str (tx s))) (.inr "bands") (.ref lb)) (.inr "presses") (.ref lp)) (.inr "places") (.ref lq) = _
  rw [e1, e2, e3, e4]
section
variable {P : Program} {w : World} {K : PySem.W.Frag} {mg : Str → Option Value} {base : Heap}
abbrev NsR : List Str := ["_law_feed_here", "_law_sizes", "_law_signs_here", "_law_names_here", "_law_bands", "_law_places", "_law_stamps", "_law_at", "_law_name", "_law_wide", "_law_far_here", "_law_goes", "_law_k", "_law_bar", "_law_upper", "_law_turn"]
theorem scRaw : FnScope NsR ["_law_feed_here", "_law_sizes"] (defScope s_law_raw) := ⟨rfl, rfl, rfl, by decide +kernel, rfl, by decide +kernel, by decide +kernel⟩
/-- the five sizes -/
structure Sizes (z0 z1 z2 z3 z4 : Nat) : Prop where
  a0 : 2 ≤ z0 ∧ z0 ≤ 4
  a1 : 1 ≤ z1 ∧ z1 ≤ 6
  a2 : 1 ≤ z2 ∧ z2 ≤ 12
  a3 : z3 ≤ 8
  a4 : 1 ≤ z4 ∧ z4 ≤ 6
/-- a raw work stands at rd -/
def IsRaw (H : Hp) (rd : Addr) (k : WorkL) : Prop := ∃ lb lp lq l m q, H rd = some (.dK [(.inr "signs", .str (tx k.signs)), (.inr "bands", .ref lb), (.inr "presses", .ref lp), (.inr "places", .ref lq)]) ∧
  H lb = some (.lst l) ∧ Each RBand H l k.bands ∧ H lp = some (.lst m) ∧ Each RStamp H m k.presses ∧ H lq = some (.lst q) ∧ Places H q k.places
def sp_raw (K : PySem.W.Frag) : Sp := fun vs H Q _ => ∃ (g : Fed) (tz : Addr) (z0 z1 z2 z3 z4 n : Nat), vs = [.ref g.f, .ref tz] ∧ H tz = some (.tup [.int z0, .int z1, .int z2, .int z3, .int z4]) ∧ Sizes z0 z1 z2 z3 z4 ∧ FeedAt K H g n ∧ n ≤ 2 ^ 28 ∧
  ∀ k rd H', WorkL.Ok k → H rd = none → IsRaw H' rd k → FeedAt K H' g (n + 400) → Kept g.f H H' → Q (.ref rd) H'
theorem ok_raw {f fD fP fS fN fT : Addr} {fd fdD fdP fdS fdN fdT : FuncData} {k : Nat} (B : Blt mg) (mm : mg "min" = none) (F : Fun K "_law_raw" "_law_raw" s_law_raw f fd) (FD : Fun K "_law_draw" "_law_draw" s_law_draw fD fdD) (bD : Binds K fdD ["_law_feed_here", "_law_many"] []) (gD : mg "_law_draw" = some (.ref fD))
    (GD : Drw P w K mg base k fD fdD) (FP : Fun K "_law_pick" "_law_pick" s_law_pick fP fdP) (bP : Binds K fdP ["_law_feed_here", "_law_some"] []) (gP : mg "_law_pick" = some (.ref fP)) (GP : Pck P w K mg base k fP fdP)
    (FS : Fun K "_law_signs" "_law_signs" s_law_signs fS fdS) (bS : Binds K fdS ["_law_feed_here", "_law_many"] []) (gS : mg "_law_signs" = some (.ref fS)) (GS : FnOk P w K mg base CX0 k fS fdS ["_law_feed_here", "_law_many"] (spSigns K))
    (FN : Fun K "_law_names" "_law_names" s_law_names fN fdN) (bN : Binds K fdN ["_law_feed_here", "_law_many"] []) (gN : mg "_law_names" = some (.ref fN)) (GN : FnOk P w K mg base CX0 k fN fdN ["_law_feed_here", "_law_many"] (sp_names K))
    (FT : Fun K "_law_table" "_law_table" s_law_table fT fdT) (bT : Binds K fdT ["_law_feed_here", "_law_signs_here"] []) (gT : mg "_law_table" = some (.ref fT)) (GT : FnOk P w K mg base CX0 k fT fdT ["_law_feed_here", "_law_signs_here"] (sp_table K)) :
    FnOk P w K mg base CX0 (k + 1) f fd ["_law_feed_here", "_law_sizes"] (sp_raw K) := by
  refine F.ok scRaw (fun vs H Q E h => ?_) (fun cdv A outer sh H vs Q E hr h => ?_)
  · obtain ⟨g, tz, z0, z1, z2, z3, z4, n, rfl, _⟩ := h
    rfl
  · obtain ⟨g, tz, z0, z1, z2, z3, z4, n, rfl, htz, sz, fe, hn, q⟩ := h
    refine ⟨_, pss_cons (ps_par (i := 2) (j := 3) rfl scRaw.nd rfl rfl (by decide) rfl rfl (pa_cons (pe_call GS hr rfl gS FS.kp bS .nil pass0 (pa_cons (pv 0) (pa_cons (pe_op op_add pe_int (pe_call GD hr rfl gD FD.kp bD .nil pass0 (pa_cons (pv 0) (pa_cons (pe_op op_sub (pe_ix ix_tup (pv 1) pe_int (fun _ _ => rfl)) pe_int) pa_nil)))) pa_nil)))
          (pa_cons (pe_call GN hr rfl gN FN.kp bN .nil pass0 (pa_cons (pv 0) (pa_cons (pe_op op_add pe_int (pe_call GD hr rfl gD FD.kp bD .nil pass0 (pa_cons (pv 0) (pa_cons (pe_ix ix_tup (pv 1) pe_int (fun _ _ => rfl)) pa_nil)))) pa_nil))) pa_nil)) (by rfl))
      (pss_cons (ps_par3 (i := 4) (j := 5) (l := 6) rfl scRaw.nd rfl rfl rfl (by decide) (by decide) (by decide) rfl rfl rfl (pa_cons (pe_lst pa_nil) (pa_cons (pe_lst pa_nil) (pa_cons (pe_lst pa_nil) pa_nil))) (by rfl))
      (pss_cons (ps_for PassesOwn.never rfl (pi_enum (by rfl) B.enu (pa_cons (pv 3) pa_nil)) (pg_tup rfl (pgs_cons (pg_name (i := 7) scRaw.nd rfl (Or.inl rfl)) (pgs_cons (pg_name (i := 8) scRaw.nd rfl (Or.inr rfl)) pgs_nil)))
        (pss_cons (ps_set (i := 9) scRaw.nd rfl (.inl rfl) (pe_callB (call_min2 rfl) (by rfl) mm (by decide +kernel) (pa_cons (pe_op op_add pe_int (pe_call GD hr rfl gD FD.kp bD .nil pass0 (pa_cons (pv 0) (pa_cons (pe_ix ix_tup (pv 1) pe_int (fun _ _ => rfl)) pa_nil))))
            (pa_cons (pe_op op_sub (pe_op op_sub (pe_op op_add pe_int (pv 7)) (pe_callB call_len (by rfl) B.len PySem.boot_len (pa_cons (pv 5) pa_nil))) (pe_callB call_len (by rfl) B.len PySem.boot_len (pa_cons (pv 3) pa_nil))) pa_nil))))
        (pss_cons (ps_set (i := 10) scRaw.nd rfl (.inl rfl) (pe_op op_sub (pe_op op_pow pe_int pe_int) (pe_call GD hr rfl gD FD.kp bD .nil pass0 (pa_cons (pv 0) (pa_cons pe_int pa_nil)))))
        (pss_cons (ps_set (i := 11) scRaw.nd rfl (.inl rfl) (pe_call GP hr rfl gP FP.kp bP .nil pass0 (pa_cons (pv 0) (pa_cons (pe_lst (pa_cons pe_int (pa_cons pe_int (pa_cons pe_int (pa_cons (pe_un un_neg pe_int) (pa_cons pe_int (pa_cons (pv 9) (pa_cons (pe_op op_add (pv 9) pe_int) (pa_cons (pe_un un_neg pe_int) (pa_cons (pv 10) (pa_cons (pe_op op_sub pe_int (pv 10)) pa_nil))))))))))) pa_nil))))
        (pss_cons (ps_expr (pe_bm PySem.F.plainAttrs_list PySem.F.slot_list_append PySem.F.type_list_append mt_append (pv 4) (pa_cons (pe_tup (pa_cons (pv 8) (pa_cons (pv 9) (pa_cons (pv 11) pa_nil)))) pa_nil)))
        (pss_one (ps_set (i := 5) scRaw.nd rfl (.inl rfl) (pe_op op_cat (pv 5) (pe_lc (own := [("_law_k", 12)]) (g := gName 12) (tt := tYes) rfl scRaw.nd (pi_range1 (by rfl) B.rng (pa_cons (pv 9) pa_nil)) (blkOk_by (own := [("_law_k", 12)]) (N := NsR) (sc := defScope s_law_raw) (by decide +kernel))
          (fun _ _ _ _ _ => pg_name (i := 12) scRaw.nd rfl (Or.inl rfl)) (fun _ _ _ _ _ => pts_nil) (fun _ _ _ _ _ => pe_tup (pa_cons (pv 8) (pa_cons (pv 12) pa_nil))))))))))))
      (pss_cons (ps_for PassesOwn.never rfl (pi_range1 (by rfl) B.rng (pa_cons (pe_call GD hr rfl gD FD.kp bD .nil pass0 (pa_cons (pv 0) (pa_cons (pe_op op_add (pe_ix ix_tup (pv 1) pe_int (fun _ _ => rfl)) pe_int) pa_nil))) pa_nil)) (pg_name (i := 12) scRaw.nd rfl (Or.inl rfl))
        (pss_cons (ps_set (i := 13) scRaw.nd rfl (.inl rfl) (pe_join pe_str (pe_lc (own := [("_law_turn", 15)]) (g := gName 15) (tt := tYes) rfl scRaw.nd (pi_range1 (by rfl) B.rng (pa_cons (pe_op op_add pe_int (pe_call GD hr rfl gD FD.kp bD .nil pass0 (pa_cons (pv 0) (pa_cons (pe_ix ix_tup (pv 1) pe_int (fun _ _ => rfl)) pa_nil)))) pa_nil))
          (blkOk_by (own := [("_law_turn", 15)]) (N := NsR) (sc := defScope s_law_raw) (by decide +kernel)) (fun _ _ _ _ _ => pg_name (i := 15) scRaw.nd rfl (Or.inl rfl)) (fun _ _ _ _ _ => pts_nil) (fun _ _ _ _ _ => pe_call GP hr rfl gP FP.kp bP .nil pass0 (pa_cons (pv 0) (pa_cons pe_str pa_nil))))))
        (pss_cons (ps_set (i := 14) scRaw.nd rfl (.inl rfl) (pe_call GP hr rfl gP FP.kp bP .nil pass0 (pa_cons (pv 0) (pa_cons (pv 5) pa_nil))))
        (pss_one (ps_expr (pe_bm PySem.F.plainAttrs_list PySem.F.slot_list_append PySem.F.type_list_append mt_append (pv 6) (pa_cons (pe_tup (pa_cons (pv 14) (pa_cons (pe_call GP hr rfl gP FP.kp bP .nil pass0 (pa_cons (pv 0) (pa_cons (pv 5) pa_nil))) (pa_cons (pe_call GT hr rfl gT FT.kp bT .nil pass0 (pa_cons (pv 0) (pa_cons (pv 2) pa_nil))) (pa_cons (pv 13) pa_nil))))) pa_nil)))))))
      (pss_one (ps_ret (pe_disp (pps_cons pe_str (pv 2) (pps_cons pe_str (pv 4) (pps_cons pe_str (pv 6) (pps_cons pe_str (pv 5) pps_nil)))) (by rfl) (by rfl) (fun z => by cases z) (by decide))))))), ?_⟩
    have b0 := sz.a0
    have b1 := sz.a1
    have b2 := sz.a2
    have b3 := sz.a3
    have b4 := sz.a4
    have small : ∀ z : Nat, z ≤ 100 → ((z : Nat) : Int).natAbs < 2 ^ 300 := fun z hz => Nat.lt_of_le_of_lt (show ((z : Nat) : Int).natAbs ≤ 100 by omega) (by decide)
    have small2 : ∀ z : Int, 0 ≤ z → z ≤ 100 → z.natAbs < 2 ^ 300 := fun z h0 h1 => Nat.lt_of_le_of_lt (show z.natAbs ≤ 100 by omega) (by decide)
    obtain ⟨kvs0, ek0⟩ := fe.dict
    have ztf : tz ≠ g.f := ne_of htz ek0 (by intro z; cases z)
    -- signs and names
    refine ⟨.ref g.f, rfl, .ref g.f, rfl, .ref tz, rfl, tz, _, 0, _, rfl, rfl, SqT.of htz, atI_nat (j := 0) rfl, z0, 1, rfl, rfl, g, (z0 : Int) - 1, n, rfl, fe, by omega, by omega, small2 _ (by omega) (by omega), fun d0 H1 d00 d01 fe1 kp1 => ⟨2, d0, rfl, rfl, ?_⟩⟩
    obtain ⟨m0, rfl⟩ := Int.eq_ofNat_of_zero_le d00
    refine ⟨g, 2 + m0, n + 1, rfl, by omega, by omega, fe1, by omega, fun sg H2 hsg fe2 kp2 => ?_⟩
    have htz2 := kp2 _ _ ztf (kp1 _ _ ztf htz)
    refine ⟨.ref g.f, rfl, .ref g.f, rfl, .ref tz, rfl, tz, _, 1, _, rfl, rfl, SqT.of htz2, atI_nat (j := 1) rfl, g, z1, n + 1 + 2, rfl, fe2, by omega, by omega, small _ (by omega), fun d1 H3 d10 d11 fe3 kp3 => ⟨1, d1, rfl, rfl, ?_⟩⟩
    obtain ⟨m1, rfl⟩ := Int.eq_ofNat_of_zero_le d10
    refine ⟨g, 1 + m1, n + 1 + 2 + 1, rfl, by omega, fe3, by omega, fun ns ln H4 nok nl4 hln fe4 kp4 => ?_⟩
    have htz4 := kp4 _ _ ztf (kp3 _ _ ztf htz2)
    have kp04 := kp1.trans (kp2.trans (kp3.trans kp4))
    refine ⟨_, _, rfl, ?_⟩
    -- three empty lists
    refine ⟨(by show 0 ≤ sizeLine; decide), fun lb nb => ?_⟩
    have s5 := same_new (o := .lst []) nb
    refine ⟨(by show 0 ≤ sizeLine; decide), fun lq nq => ?_⟩
    have s6 := same_new (o := .lst []) nq
    refine ⟨(by show 0 ≤ sizeLine; decide), fun lp np => ?_⟩
    have s7 := same_new (o := .lst []) np
    have hlb5 : (upd H4 lb (.lst [])) lb = some (.lst []) := upd_same
    have hlq6 : (upd (upd H4 lb (.lst [])) lq (.lst [])) lq = some (.lst []) := upd_same
    have qb : lq ≠ lb := fun z => by
      rw [z, hlb5] at nq
      cases nq
    have pb : lp ≠ lb := fun z => by
      rw [z, s6 _ _ hlb5] at np
      cases np
    have pq : lp ≠ lq := fun z => by
      rw [z, hlq6] at np
      cases np
    have s47 := s5.trans (s6.trans s7)
    have fe7 := fe4.same s47
    have n4 : ∀ {D : Addr}, H4 D = none → H D = none := fun {D} nD => by
      cases e : H D with
      | none => rfl
      | some o =>
        by_cases c : D = g.f
        · obtain ⟨kv, ek⟩ := fe4.dict
          rw [c, ek] at nD
          cases nD
        · rw [kp04 _ _ c e] at nD
          cases nD
    have nb0 : H lb = none := n4 nb
    have np0 : H lp = none := n4 (by rw [upd_ne pq, upd_ne pb] at np; exact np)
    have nl := nok.len
    have hnb : ln ≠ lb := ne_of_none hln nb
    have hnp : ln ≠ lp := ne_of_none hln (by rw [upd_ne pq, upd_ne pb] at np; exact np)
    refine ⟨_, _, _, rfl, ?_⟩
    refine ⟨.ref ln, rfl, ln, txs ns, rfl, SqL.of (s47 _ _ hln), ?_⟩
    refine for_it (walk_enum (K := K) (a := ln) (xs := txs ns)) (fun i σ H5 => ∃ (lq : Addr) (bs : List BandL) (v7 v8 v9 v10 v11 : Option V), σ = [some (.ref g.f), some (.ref tz), some (.str (tx sg)), some (.ref ln), some (.ref lb), some (.ref lq), some (.ref lp), v7, v8, v9, v10, v11, none, none, none, none] ∧
        Half K H g tz ln lb lq lp [.int z0, .int z1, .int z2, .int z3, .int z4] ns i (n + 30 + 3 * i) H5 bs) ⟨lq, [], none, none, none, none, none, rfl, ?_⟩ (fun i σ H5 _ z => ?_) ?_ ?_
    · exact ⟨rfl, rfl, by simp, by simp; omega, ⟨[], s7 _ _ (s6 _ _ hlb5), Each.nil⟩, ⟨[], s7 _ _ hlq6, Each.nil⟩, upd_same, s47 _ _ hln, s47 _ _ htz4, qb, fun z => pq z.symm, fe7.le (by omega), kp04.trans (Kept.of s47)⟩
    · obtain ⟨lq, bs, _, _, _, _, _, _, hf⟩ := z
      exact SqL.of hf.hn
    · rintro i x σ H5 H5' hi ⟨lq, bs, v7, v8, v9, v10, v11, rfl, hf⟩ ⟨T, y1, y2, rfl, nT, rfl, e1, e2⟩
      have i' : i < ns.length := by rw [← txs_len ns]; exact hi
      cases (Option.some.inj e1)
      have en : ns[i]? = some ns[i] := List.getElem?_eq_getElem i'
      have nmi := nok.each _ (List.getElem_mem i')
      have ndn := nok.nd
      have em := txs_get en
      have e3 : (txs ns)[i]? = some y2 := e2
      rw [em] at e3
      cases e3
      obtain ⟨l, hl, el⟩ := hf.hb
      obtain ⟨qs, hqs, eq⟩ := hf.hq
      have room := hf.room
      have bl := hf.len
      have sT := same_new (o := .tup [.int (i : Int), .str (tx ns[i])]) nT
      refine ⟨T, _, rfl, SqT.of upd_same, rfl, _, _, rfl, _, _, rfl, rfl, ?_⟩
      have fe5 := hf.fe.same sT
      have pl : qs.length = (bs.map (·.long)).sum := by rw [eq.1, placesL_len]
      refine ⟨.ref g.f, rfl, .ref tz, rfl, tz, _, 2, _, rfl, rfl, SqT.of (sT _ _ hf.hz), atI_nat (j := 2) rfl, g, z2, n + 30 + 3 * i, rfl, fe5, by omega, by omega, small _ (by omega), fun d2 H6 d20 d21 fe6 kp6 => ⟨1, d2, rfl, rfl, ?_⟩⟩
      obtain ⟨kvs5, ek5⟩ := fe5.dict
      have lne : ∀ {D : Addr} {xs : List V}, H5 D = some (.lst xs) → D ≠ g.f := fun {D xs} h => ne_of (sT _ _ h) ek5 (by intro z; cases z)
      have tne : ∀ {D : Addr} {xs : List V}, H5 D = some (.tup xs) → D ≠ g.f := fun {D xs} h => ne_of (sT _ _ h) ek5 (by intro z; cases z)
      have k56 : Kept g.f H5 H6 := (Kept.of sT).trans kp6
      have hq6 := k56 _ _ (lne hqs) hqs
      have hn6 := k56 _ _ (lne hf.hn) hf.hn
      refine ⟨.int (i : Int), rfl, 41, i, rfl, rfl, .ref lq, rfl, .ref lq, qs.length, rfl, .inl ⟨_, SqL.of hq6, rfl⟩, _, _, rfl, rfl, .ref ln, rfl, .ref ln, ns.length, rfl, .inl ⟨_, SqL.of hn6, (txs_len ns).symm⟩, _, _, rfl, rfl, _, _, rfl, ?_⟩
      obtain ⟨wide, ew, w1, w12, wr⟩ : ∃ wide : Nat, (if 41 + (i : Int) - (qs.length : Int) - (ns.length : Int) < 1 + d2 then 41 + (i : Int) - (qs.length : Int) - (ns.length : Int) else 1 + d2) = (wide : Int) ∧ 1 ≤ wide ∧ wide ≤ 12 ∧ (bs.map (·.long)).sum + wide + (ns.length - (i + 1)) ≤ 40 := by
        split
        · exact ⟨(41 + (i : Int) - (qs.length : Int) - (ns.length : Int)).toNat, by omega, by omega, by omega, by omega⟩
        · exact ⟨(1 + d2).toNat, by omega, by omega, by omega, by omega⟩
      rw [ew]
      refine ⟨10, 12, rfl, rfl, ⟨by decide, by decide, by decide⟩, .ref g.f, rfl, g, 12, n + 30 + 3 * i + 1, rfl, fe6, by omega, by decide, by decide, fun d3 H7 d30 d31 fe7 kp7 => ⟨_, _, rfl, rfl, ?_⟩⟩
      have e12 : (10 : Int) ^ (12 : Int).toNat = 1000000000000 := by decide
      rw [e12]
      have f0 : 0 ≤ 1000000000000 - d3 := by omega
      have f1 : 1000000000000 - d3 ≤ 10 ^ 12 := by omega
      refine ⟨.ref g.f, rfl, 1, rfl, .int wide, rfl, .int wide, rfl, wide, 1, rfl, rfl, 3, rfl, .int (1000000000000 - d3), rfl, .int (1000000000000 - d3), rfl, 0, 1000000000000 - d3, rfl, rfl, (by show 10 ≤ sizeLine; decide), fun l2 nl2 => ?_⟩
      refine ⟨g, .ref l2, n + 30 + 3 * i + 1 + 1, rfl, fe7.same (same_new nl2), by omega, .inr ⟨l2, _, rfl, SqL.of upd_same, (by show 0 < 10; decide), (by show 10 ≤ 1000; decide), fun x H8 hx fe8 kp8 => ?_⟩⟩
      obtain ⟨goes, rfl, go0, go1⟩ : ∃ goes : Int, x = .int goes ∧ -(10 ^ 12) ≤ goes ∧ goes ≤ 10 ^ 12 := by
        rcases List.mem_cons.mp hx with rfl | hx
        · exact ⟨_, rfl, by decide, by decide⟩
        rcases List.mem_cons.mp hx with rfl | hx
        · exact ⟨_, rfl, by decide, by decide⟩
        rcases List.mem_cons.mp hx with rfl | hx
        · exact ⟨_, rfl, by decide, by decide⟩
        rcases List.mem_cons.mp hx with rfl | hx
        · exact ⟨_, rfl, by decide, by decide⟩
        rcases List.mem_cons.mp hx with rfl | hx
        · exact ⟨_, rfl, by decide, by decide⟩
        rcases List.mem_cons.mp hx with rfl | hx
        · exact ⟨_, rfl, by omega, by omega⟩
        rcases List.mem_cons.mp hx with rfl | hx
        · exact ⟨_, rfl, by omega, by omega⟩
        rcases List.mem_cons.mp hx with rfl | hx
        · exact ⟨_, rfl, by decide, by decide⟩
        rcases List.mem_cons.mp hx with rfl | hx
        · exact ⟨_, rfl, by omega, by omega⟩
        rcases List.mem_cons.mp hx with rfl | hx
        · exact ⟨_, rfl, by omega, by omega⟩
        cases hx
      clear hx
      have k58 : Kept g.f H5 H8 := k56.trans (kp7.trans ((Kept.of (same_new nl2)).trans kp8))
      have kt58 : Kt H5 H8 := Kt.kept hf.fe k58
      have hb8 := k58 _ _ (lne hl) hl
      refine ⟨.ref lb, rfl, .inl ⟨rfl, _, SqL.of hb8⟩, .str (tx ns[i]), rfl, .int wide, rfl, .int goes, rfl, (by show 3 ≤ sizeLine; decide), fun t nt => ?_⟩
      have st := same_new (o := .tup [.str (tx ns[i]), .int (wide : Int), .int goes]) nt
      have few6 : l.length ≤ 6 := by rw [el.1, bl]; omega
      refine ⟨lb, _, _, rfl, rfl, st _ _ hb8, small1000 (by omega), ?_⟩
      let b : BandL := ⟨ns[i], wide, goes⟩
      generalize hH9 : upd H8 t (.tup [.str (tx ns[i]), .int (wide : Int), .int goes]) = H9 at *
      have rb : RBand H9 (.ref t) b := ⟨t, rfl, by rw [← hH9]; exact upd_same⟩
      have fe9 := fe8.same st
      have k59 : Kept g.f H5 H9 := k58.trans (Kept.of st)
      have kt59 : Kt H5 H9 := kt58.trans (Kt.of st)
      have hb9 := st _ _ hb8
      have kp9 : Kept g.f H H9 := hf.kp.trans k59
      -- the list of bands has grown
      generalize hHA : upd H9 lb (.lst (l ++ [.ref t])) = HA
      have knA : Kn H9 HA := hHA ▸ Kn.put hb9
      have hbA : HA lb = some (.lst (l ++ [.ref t])) := by rw [← hHA]; exact upd_same
      have neA : ∀ {D : Addr} {o : HO}, D ≠ lb → H9 D = some o → HA D = some o := fun {D o} ne e => by
        rw [← hHA, upd_ne ne]
        exact e
      have feA : FeedAt K HA g (n + 30 + 3 * i + 1 + 1 + 1) := hHA ▸ FeedAt.put fe4 nb fe9
      have kpA : Kept g.f H HA := hHA ▸ kept_put kp9 nb0
      have ktA : Kt H5 HA := kt59.trans (Kt.kn knA)
      have hqA := neA hf.qb (k59 _ _ (lne hqs) hqs)
      refine ⟨.ref lq, rfl, .int wide, rfl, (wide : Int), rfl, by omega, by omega, fun D nD => ?_⟩
      rw [Int.toNat_natCast]
      refine lc_v (walk_range (lo := 0) (n := wide)) (fun _ _ => trivial) (fun j H1 r => Places H1 r (rangeP b j)) (fun _ => Each.nil) (fun j H1 r hj h => ?_) (fun j H1 H2 r kn h => h.imp (RPlace.kn kn)) nD ?_ ?_
      · rw [h.1]
        unfold rangeP
        rw [List.length_map, List.length_range]
        omega
      · rintro j y HB HB' r Qy Qn hj sm hr ⟨rfl, rfl⟩ qy _
        refine ⟨rfl, yes_kept ?_⟩
        refine ⟨.str (tx ns[i]), rfl, .int (0 + (j : Int)), rfl, (by show 2 ≤ sizeLine; decide), fun t2 nt2 => qy _ _ (same_new nt2) ?_⟩
        have e : rangeP b (j + 1) = rangeP b j ++ [⟨ns[i], j⟩] := by
          unfold rangeP
          rw [List.range_succ, List.map_append]
          rfl
        rw [e]
        refine (hr.imp (RPlace.kn (Kn.of (same_new nt2)))).snoc ⟨t2, rfl, ?_⟩
        show (upd _ t2 _) t2 = _
        rw [upd_same, Int.zero_add]
      · intro HB r sm hr hDB
        have hqB := sm _ _ hqA
        have rl : r.length = wide := by
          rw [hr.1]
          unfold rangeP
          rw [List.length_map, List.length_range]
        refine ⟨lq, D, qs, r, rfl, rfl, hqB, hDB, Nat.le_of_lt (small1000 (by omega)), fun p np2 => ?_⟩
        have sp := same_new (o := .lst (qs ++ r)) np2
        have smp := sm.trans sp
        have pb2 : p ≠ lb := fun z => by
          rw [z, sm _ _ hbA] at np2
          cases np2
        have hp5 := k59 _ _ (lne hf.hp) hf.hp
        have hn5 := k59 _ _ (lne hf.hn) hf.hn
        have hz5 := k59 _ _ (tne hf.hz) hf.hz
        have hpA := neA pb hp5
        have pp2 : p ≠ lp := fun z => by
          rw [z, sm _ _ hpA] at np2
          cases np2
        have ztb : tz ≠ lb := ne_of hz5 hb9 (by intro z; cases z)
        refine ⟨p, bs ++ [b], _, _, _, _, _, rfl, ?_⟩
        refine ⟨by rw [List.length_append, bl]; rfl, ?_, ?_, ?_, ⟨_, smp _ _ hbA, ((el.imp (RBand.kt (ktA.trans (Kt.of smp)))).snoc (RBand.kn (knA.trans (Kn.of smp)) _ _ rb))⟩, ⟨_, upd_same, ?_⟩, smp _ _ hpA, smp _ _ (neA hnb hn5), smp _ _ (neA ztb hz5), pb2, pp2, (feA.same smp).le (by omega), kpA.trans (Kept.of smp)⟩
        · rw [List.map_append, hf.nms, List.take_add_one, en]
          rfl
        · intro c hc
          rcases List.mem_append.mp hc with hc | hc
          · exact hf.ok c hc
          · rw [List.mem_singleton.mp hc]
            exact ⟨nmi, w1, w12, go0, go1⟩
        · rw [sum_snoc]
          exact wr
        · rw [placesL_snoc]
          exact Each.append (eq.imp (RPlace.kt (ktA.trans (Kt.of smp)))) (hr.imp (RPlace.kn (Kn.of sp)))
    · rintro σ H5 ⟨lq, bs, v7, v8, v9, v10, v11, rfl, hf⟩
      have tl : (txs ns).length = ns.length := txs_len ns
      rw [tl] at hf
      obtain ⟨l, hl, el⟩ := hf.hb
      obtain ⟨qs, hqs, eq⟩ := hf.hq
      have bl := hf.len
      have nms : bs.map (·.name) = ns := by
        have := hf.nms
        rwa [List.take_length] at this
      have allb : (bs.map (·.long)).sum ≤ 40 := by have := hf.room; omega
      have bok : BandsOk bs := ⟨hf.ok, by omega, by omega, by rw [nms]; exact nok.nd, allb⟩
      have plen : (placesL bs).length = (bs.map (·.long)).sum := placesL_len bs
      have p0 : 0 < qs.length := by
        rw [eq.1, plen]
        cases bs with
        | nil =>
          simp at bl
          omega
        | cons b bs =>
          have := (hf.ok b (List.mem_cons_self ..)).lo
          rw [List.map_cons, List.sum_cons]
          omega
      have p40 : qs.length ≤ 40 := by rw [eq.1, plen]; exact allb
      have fe5 := hf.fe
      obtain ⟨kvs5, ek5⟩ := fe5.dict
      have lne : ∀ {D : Addr} {xs : List V}, H5 D = some (.lst xs) → D ≠ g.f := fun {D xs} h => ne_of h ek5 (by intro z; cases z)
      have ztf5 : tz ≠ g.f := ne_of hf.hz ek5 (by intro z; cases z)
      have sig : sg.length ≤ 4 ∧ 2 ≤ sg.length := ⟨hsg.hi, hsg.lo⟩
      refine ⟨.ref g.f, rfl, .ref tz, rfl, tz, _, 3, _, rfl, rfl, SqT.of hf.hz, atI_nat (j := 3) rfl, z3, 1, rfl, rfl, g, (z3 : Int) + 1, n + 30 + 3 * ns.length, rfl, fe5, by omega, by omega, small2 _ (by omega) (by omega), fun d6 H6 d60 d61 fe6 kp6 => ?_⟩
      obtain ⟨m6, rfl⟩ := Int.eq_ofNat_of_zero_le d60
      refine ⟨(m6 : Int), rfl, by omega, by omega, ?_⟩
      rw [Int.toNat_natCast]
      refine for_it (walk_range (lo := 0) (n := m6)) (fun i σ H7 => ∃ (rs : List PressL) (w7 w8 w9 w10 w11 w12 w13 w14 : Option V), σ = [some (.ref g.f), some (.ref tz), some (.str (tx sg)), some (.ref ln), some (.ref lb), some (.ref lq), some (.ref lp), w7, w8, w9, w10, w11, w12, w13, w14, none] ∧
        rs.length = i ∧ (∀ r ∈ rs, FitsWork sg (placesL bs) r) ∧ (∃ m, H7 lp = some (.lst m) ∧ Each RStamp H7 m rs) ∧ (H7 lb = some (.lst l) ∧ Each RBand H7 l bs) ∧ (H7 lq = some (.lst qs) ∧ Places H7 qs (placesL bs)) ∧ H7 tz = some (.tup [.int z0, .int z1, .int z2, .int z3, .int z4]) ∧ FeedAt K H7 g (n + 60 + 40 * i) ∧ Kept g.f H H7)
        ⟨[], _, _, _, _, _, _, _, _, rfl, rfl, by simp, ⟨[], kp6 _ _ (lne hf.hp) hf.hp, Each.nil⟩, ⟨kp6 _ _ (lne hl) hl, el.imp (RBand.kt (Kt.kept fe5 kp6))⟩, ⟨kp6 _ _ (lne hqs) hqs, eq.imp (RPlace.kt (Kt.kept fe5 kp6))⟩, kp6 _ _ ztf5 hf.hz, fe6.le (by omega), hf.kp.trans kp6⟩ (fun _ _ _ _ _ => trivial) ?_ ?_
      · rintro i x σ H7 H7' hi ⟨rs, w7, w8, w9, w10, w11, w12, w13, w14, rfl, rl, fit, ⟨m, hm, em⟩, ⟨hl7, el7⟩, ⟨hq7, eq7⟩, hz7, fe7, kp7⟩ ⟨rfl, rfl⟩
        obtain ⟨kvs7, ek7⟩ := fe7.dict
        have lne7 : ∀ {D : Addr} {xs : List V}, H7' D = some (.lst xs) → D ≠ g.f := fun {D xs} h => ne_of h ek7 (by intro z; cases z)
        have ztf7 : tz ≠ g.f := ne_of hz7 ek7 (by intro z; cases z)
        refine ⟨⟨_, rfl⟩, .ref g.f, rfl, .ref tz, rfl, tz, _, 4, _, rfl, rfl, SqT.of hz7, atI_nat (j := 4) rfl, g, z4, n + 60 + 40 * i, rfl, fe7, by omega, by omega, small _ (by omega), fun d8 H8 d80 d81 fe8 kp8 => ⟨1, d8, rfl, rfl, ?_⟩⟩
        obtain ⟨m8, rfl⟩ := Int.eq_ofNat_of_zero_le d80
        refine ⟨1 + (m8 : Int), rfl, by omega, by omega, fun D nD => ?_⟩
        have tn : (1 + (m8 : Int)).toNat = 1 + m8 := by omega
        rw [tn]
        refine lc_feed (walk_range (lo := 0) (n := 1 + m8)) g (n + 60 + 40 * i + 1) 1 (fun c : Nat => V.str (tx [c])) (fun bar => ∀ c ∈ bar, c = 120 ∨ c = 45) (by simp) (by omega) fe8 nD (fun _ _ _ => trivial) ?_ ?_ mono_name
        · rintro j y H9 H9' bar Qy hj hl9 hR kp9 fe9 ⟨rfl, rfl⟩ qy
          refine ⟨rfl, ?_⟩
          refine ⟨.ref g.f, rfl, g, .str (tx [120, 120, 45]), n + 60 + 40 * i + 1 + 1 * j, rfl, fe9, by omega, .inl ⟨[120, 120, 45], rfl, by decide, by decide, fun c HA hc feA kpA => qy c HA (fun e he => ?_) kpA (feA.le (by omega))⟩⟩
          rcases List.mem_append.mp he with he | he
          · exact hR e he
          · rw [List.mem_singleton.mp he]
            have : c = 120 ∨ c = 120 ∨ c = 45 := by simpa using hc
            omega
        · intro H9 bar hbl hR kp9 fe9 hD9
          refine ⟨tx [], D, ones bar, tx_nil ▸ rfl, rfl, .inl (SqL.of (by unfold ones; rw [List.map_map]; exact hD9)), ?_, ?_⟩
          · rw [ones_sum, ones_len, tx_len]
            simp
            omega
          rw [ones_join]
          have k79 := kp8.trans kp9
          have hq9 := k79 _ _ (lne7 hq7) hq7
          have hm9 := k79 _ _ (lne7 hm) hm
          have hl9 := k79 _ _ (lne7 hl7) hl7
          have kt79 : Kt H7' H9 := Kt.kept fe7 k79
          refine ⟨.ref g.f, rfl, .ref lq, rfl, g, .ref lq, n + 60 + 40 * i + 1 + 1 * (1 + m8), rfl, fe9, by omega, .inr ⟨lq, qs, rfl, SqL.of hq9, p0, by omega, fun xa HA hxa feA kpA => ?_⟩⟩
          obtain ⟨ja, eja⟩ := List.mem_iff_getElem?.mp hxa
          obtain ⟨sa, esa, ta, rfl, pta⟩ := (eq7.imp (RPlace.kt kt79)).at_ eja
          obtain ⟨kvs9, ek9⟩ := fe9.dict
          have lne9 : ∀ {D : Addr} {xs : List V}, H9 D = some (.lst xs) → D ≠ g.f := fun {D xs} h => ne_of h ek9 (by intro z; cases z)
          have hqA := kpA _ _ (lne9 hq9) hq9
          have hmA := kpA _ _ (lne9 hm9) hm9
          refine ⟨.ref lp, rfl, .inl ⟨rfl, _, SqL.of hmA⟩, .ref ta, rfl, .ref g.f, rfl, .ref lq, rfl, g, .ref lq, n + 60 + 40 * i + 1 + 1 * (1 + m8) + 1, rfl, feA, by omega, .inr ⟨lq, qs, rfl, SqL.of hqA, p0, by omega, fun xb HB hxb feB kpB => ?_⟩⟩
          have k7B : Kept g.f H7' HB := (k79.trans kpA).trans kpB
          obtain ⟨jb, ejb⟩ := List.mem_iff_getElem?.mp hxb
          obtain ⟨sb, esb, tb, rfl, ptb⟩ := (eq7.imp (RPlace.kt (Kt.kept fe7 k7B))).at_ ejb
          refine ⟨.ref g.f, rfl, .str (tx sg), rfl, g, sg, n + 60 + 40 * i + 1 + 1 * (1 + m8) + 1 + 1, rfl, hsg, feB, by omega, fun rows TT HC hrl hrows nTT hTT feC kpC => ?_⟩
          refine ⟨.str (tx bar), rfl, (by show 4 ≤ sizeLine; decide), fun t nt => ?_⟩
          have st := same_new (o := .tup [.ref ta, .ref tb, .ref TT, .str (tx bar)]) nt
          have k7C : Kept g.f H7' HC := k7B.trans kpC
          have hmC := k7C _ _ (lne7 hm) hm
          have ml : m.length ≤ 8 := by rw [em.1, rl]; omega
          refine ⟨lp, m, _, rfl, rfl, st _ _ hmC, small1000 (by omega), ?_⟩
          generalize hHE : upd HC t (.tup [.ref ta, .ref tb, .ref TT, .str (tx bar)]) = HE at *
          have htE : HE t = some (.tup [.ref ta, .ref tb, .ref TT, .str (tx bar)]) := by rw [← hHE]; exact upd_same
          have ktAE : Kt H9 HE := (((Kt.kept fe9 kpA).trans (Kt.kept feA kpB)).trans (Kt.kept feB kpC)).trans (Kt.of st)
          have ktBE : Kt HB HE := (Kt.kept feB kpC).trans (Kt.of st)
          have kt7E : Kt H7' HE := kt79.trans ktAE
          have hmE := st _ _ hmC
          let r : PressL := ⟨sa, sb, rows, bar⟩
          have rst : RStamp HE (.ref t) r := ⟨t, ta, tb, TT, rfl, htE, ⟨IsPlace.kt ktAE pta, IsPlace.kt ktBE ptb, st _ _ hTT⟩⟩
          generalize hHF : upd HE lp (.lst (m ++ [.ref t])) = HF
          have knF : Kn HE HF := hHF ▸ Kn.put hmE
          have hmF : HF lp = some (.lst (m ++ [.ref t])) := by rw [← hHF]; exact upd_same
          have neF : ∀ {D : Addr} {o : HO}, D ≠ lp → HE D = some o → HF D = some o := fun {D o} ne e => by
            rw [← hHF, upd_ne ne]
            exact e
          have hne0 : ∀ {D : Addr} {xs : List V}, H7' D = some (.lst xs) → HE D = some (.lst xs) := fun {D xs} h => st _ _ (k7C _ _ (lne7 h) h)
          have kp7E : Kept g.f H HE := (kp7.trans k7C).trans (Kept.of st)
          have feE := feC.same st
          have ktF : Kt H7' HF := kt7E.trans (Kt.kn knF)
          have zlp : tz ≠ lp := ne_of hz7 hm (by intro z; cases z)
          have np4 : H4 lp = none := by
            rw [upd_ne pq, upd_ne pb] at np
            exact np
          refine ⟨rs ++ [r], _, _, _, _, _, _, _, _, rfl, by rw [List.length_append, rl]; rfl, ?_, ⟨_, hmF, ((em.imp (RStamp.kt ktF)).snoc (RStamp.kn knF _ _ rst))⟩, ⟨neF (fun z => pb z.symm) (hne0 hl7), el7.imp (RBand.kt ktF)⟩, ⟨neF hf.qp (hne0 hq7), eq7.imp (RPlace.kt ktF)⟩, neF zlp (st _ _ (k7C _ _ ztf7 hz7)), ?_, hHF ▸ kept_put kp7E np0⟩
          · intro c hc
            rcases List.mem_append.mp hc with hc | hc
            · exact fit c hc
            · rw [List.mem_singleton.mp hc]
              have ma : sa ∈ placesL bs := List.mem_of_getElem? esa
              have mb : sb ∈ placesL bs := List.mem_of_getElem? esb
              have at12 : ∀ s ∈ placesL bs, s.at_ < 12 := fun s hs => by
                obtain ⟨b, hb, h2⟩ := List.mem_flatMap.mp hs
                obtain ⟨j, hj, rfl⟩ := List.mem_map.mp h2
                have := (bok.each b hb).hi
                have := List.mem_range.mp hj
                show j < 12
                omega
              refine ⟨⟨places_low bok.each _ ma, at12 _ ma, places_low bok.each _ mb, at12 _ mb, ⟨sig.2, sig.1, hrl, fun m hm => ⟨(hrows m hm).1, ?_⟩⟩, ⟨by show 1 ≤ bar.length; omega, by show bar.length ≤ 6; omega, hR⟩⟩, ma, mb, fun m hm c hc => (hrows m hm).2 c hc⟩
              exact fun c hc => hsg.small c ((hrows m hm).2 c hc)
          · refine FeedAt.le (n := n + 60 + 40 * i + 1 + 1 * (1 + m8) + 1 + 1 + 20) ?_ (by omega)
            exact hHF ▸ FeedAt.put fe4 np4 feE
      · rintro σ H7 ⟨rs, w7, w8, w9, w10, w11, w12, w13, w14, rfl, rl, fit, ⟨m, hm, em⟩, ⟨hl7, el7⟩, ⟨hq7, eq7⟩, hz7, fe7, kp7⟩
        intro rd nrd
        have hrd : (upd H7 rd (.dK [])) rd = some (.dK []) := upd_same
        refine ⟨.str (tx sg), rfl, .ref lb, rfl, .ref lp, rfl, .ref lq, rfl, ?_⟩
        refine ⟨hrd, [(.inr "signs", .str (tx sg)), (.inr "bands", .ref lb), (.inr "presses", .ref lp), (.inr "places", .ref lq)], rfl, (by show 4 ≤ 15; decide), ?_⟩
        have made : mergeK [] ([(.inr "signs", .str (tx sg)), (.inr "bands", .ref lb), (.inr "presses", .ref lp), (.inr "places", .ref lq)] : List (Key × V)) = [(.inr "signs", .str (tx sg)), (.inr "bands", .ref lb), (.inr "presses", .ref lp), (.inr "places", .ref lq)] := raw_merge sg lb lp lq
        rw [made]
        have nrd7 : upd H7 rd (.dK []) = upd H7 rd (.dK []) := rfl
        have s8 : Same H7 (upd (upd H7 rd (.dK [])) rd (.dK [(.inr "signs", .str (tx sg)), (.inr "bands", .ref lb), (.inr "presses", .ref lp), (.inr "places", .ref lq)])) := fun b o e => by
          have ne := ne_of_none e nrd
          rw [upd_ne ne, upd_ne ne]
          exact e
        have nH : H rd = none := by
          cases e : H rd with
          | none => rfl
          | some o =>
            by_cases c : rd = g.f
            · obtain ⟨kv, ek⟩ := fe7.dict
              rw [c, ek] at nrd
              cases nrd
            · rw [kp7 _ _ c e] at nrd
              cases nrd
        refine q ⟨sg, bs, rs⟩ rd _ ⟨hsg, bok, by show rs.length ≤ 8; omega, fit⟩ nH ⟨lb, lp, lq, l, m, qs, upd_same, s8 _ _ hl7, el7.imp (RBand.kt (Kt.of s8)), s8 _ _ hm, em.imp (RStamp.kt (Kt.of s8)), s8 _ _ hq7, eq7.imp (RPlace.kt (Kt.of s8))⟩ ((fe7.same s8).le (by omega)) (kp7.trans (Kept.of s8))
end
end K05
set_option Elab.async false
set_option linter.all false
set_option maxRecDepth 100000
set_option maxHeartbeats 2000000
/-! How keyword-only arguments bind. -/
namespace K05
open PySem PySem.Spec PyProof.Rows L2 Bp
section
variable {K : PySem.W.Frag} {f : Addr} {fd : FuncData}
theorem kb_Band (F : FD K "__init__" "Band.__init__" s_Band_init [] [("pace", .int 0)] f fd) : ∃ mv : List Value, KBn K fd ["self", "name", "long", "pace"] 3 ["pace"] (fun us ws => us ++ ws) (fun vs zs => vs ++ zs) := by
  refine F.kbinds0 3 ["pace"] [] (fun us _ ws => us ++ ws) (by intro h; cases h) (fun q h => by cases h) (fun a _ c => a.append c) ?_
  intro D doc pm an cdv ct us mv ws hu hm hw
  match us, mv, ws, hu, hm, hw with
  | [_, _, _], [], [_], _, _, _ => exact rfl
theorem kb_Press (F : FD K "__init__" "Press.__init__" s_Press_init [] [("rhythm", .str "x")] f fd) : ∃ mv : List Value, KBn K fd ["self", "above", "below", "table", "rhythm"] 4 ["rhythm"] (fun us ws => us ++ ws) (fun vs zs => vs ++ zs) := by
  refine F.kbinds0 4 ["rhythm"] [] (fun us _ ws => us ++ ws) (by intro h; cases h) (fun q h => by cases h) (fun a _ c => a.append c) ?_
  intro D doc pm an cdv ct us mv ws hu hm hw
  match us, mv, ws, hu, hm, hw with
  | [_, _, _, _], [], [_], _, _, _ => exact rfl
theorem kb_next (F : FD K "next_pass" "next_pass" s_next_pass [] [("behind", .int 0)] f fd) : ∃ mv : List Value, KBn K fd ["work", "press", "side", "place", "behind"] 4 ["behind"] (fun us ws => us ++ ws) (fun vs zs => vs ++ zs) := by
  refine F.kbinds0 4 ["behind"] [] (fun us _ ws => us ++ ws) (by intro h; cases h) (fun q h => by cases h) (fun a _ c => a.append c) ?_
  intro D doc pm an cdv ct us mv ws hu hm hw
  match us, mv, ws, hu, hm, hw with
  | [_, _, _, _], [], [_], _, _, _ => exact rfl
theorem b_Work {dv : V} (F : FD K "__init__" "Work.__init__" s_Work_init [dv] [] f fd) : Binds K fd ["self", "signs", "bands", "presses"] [] := by
  obtain ⟨ds, hv, hb⟩ := F.binds1 (ps := ["self", "signs", "bands", "presses"]) 4 1 (by intro h; cases h) rfl (fun T kV doc pm an cdv ct us its hu hi => by
    match us, its, hu, hi with
    | [_, _, _, _], [_], _, _ => exact ⟨_, rfl, rfl⟩)
  cases hv
  exact hb
end
end K05
set_option Elab.async false
set_option linter.all false
set_option maxRecDepth 100000
set_option maxHeartbeats 2000000
/-! The law's own hand: works are made of what was drawn. -/
namespace K05
open PySem PySem.Spec PyProof.Rows L2 Bp
def rawKvs (s : List Nat) (lb lp lq : Addr) : List (Key × V) := [(.inr "signs", .str (tx s)), (.inr "bands", .ref lb), (.inr "presses", .ref lp), (.inr "places", .ref lq)]
theorem raw_signs (s : List Nat) (lb lp lq : Addr) : valV (rawKvs s lb lp lq) (.inr "signs") = some (.str (tx s)) := valV_pos rfl
theorem raw_bands (s : List Nat) (lb lp lq : Addr) : valV (rawKvs s lb lp lq) (.inr "bands") = some (.ref lb) := by
  unfold rawKvs
  rw [valV_neg (inr_ne w_sb), valV_pos rfl]
theorem raw_presses (s : List Nat) (lb lp lq : Addr) : valV (rawKvs s lb lp lq) (.inr "presses") = some (.ref lp) := by
  unfold rawKvs
  rw [valV_neg (inr_ne w_sp), valV_neg (inr_ne w_bp), valV_pos rfl]
theorem raw_places (s : List Nat) (lb lp lq : Addr) : valV (rawKvs s lb lp lq) (.inr "places") = some (.ref lq) := by
  unfold rawKvs
  rw [valV_neg (inr_ne w_sl), valV_neg (inr_ne w_bl), valV_neg (inr_ne w_pl), valV_pos rfl]
theorem AreBands.snoc {C : Addr} {H : Hp} {ps : List Addr} {bs : List BandL} {p : Addr} {b : BandL} (h : AreBands C H ps bs) (hb : IsBand C H p b) : AreBands C H (ps ++ [p]) (bs ++ [b]) := by
  refine ⟨by rw [List.length_append, List.length_append, h.1]; rfl, fun i q x e1 e2 => ?_⟩
  rcases Nat.lt_or_ge i ps.length with lt | ge
  · rw [List.getElem?_append_left lt] at e1
    rw [List.getElem?_append_left (by rw [← h.1]; exact lt)] at e2
    exact h.2 i q x e1 e2
  · rw [List.getElem?_append_right ge] at e1
    rw [List.getElem?_append_right (by rw [← h.1]; exact ge)] at e2
    have i0 : i - ps.length = 0 := by
      have := (List.getElem?_eq_some_iff.mp e1).1
      simp at this
      omega
    rw [i0] at e1
    rw [← h.1, i0] at e2
    cases e1
    cases e2
    exact hb
/-- a new instance and what its __init__ leaves -/
theorem made_same {H H' : Hp} {x dx C : Addr} (nx : H x = none) (nd : H dx = none) (ne : dx ≠ x) (k : ∀ c o, c ≠ x → upd (upd H dx (.own x)) x (.ins C dx []) c = some o → H' c = some o) : Same H H' := fun b o e => by
  have b1 := ne_of_none e nx
  have b2 := ne_of_none e nd
  refine k b o b1 ?_
  rw [upd_ne b1, upd_ne b2]
  exact e
section
variable {P : Program} {w : World} {K : PySem.W.Frag} {mg : Str → Option Value} {base : Heap} {CW CB CP : Addr}
abbrev NsM : List Str := ["_law_raw_here", "_law_made_here", "_law_name", "_law_wide", "_law_goes", "_law_up", "_law_low", "_law_rule", "_law_bar"]
theorem scMade : FnScope NsM ["_law_raw_here"] (defScope s_law_made) := ⟨rfl, rfl, rfl, by decide +kernel, rfl, by decide +kernel, by decide +kernel⟩
def sp_made (CW CB CP : Addr) : Sp := fun vs H Q _ => ∃ (rd : Addr) (k : WorkL), vs = [.ref rd] ∧ IsRaw H rd k ∧ k.Ok ∧ ∀ p H', Same H H' → IsWork CW CB CP H' p k → Q (.ref p) H'
theorem ok_made {f fB fP fW : Addr} {fd fdB fdP fdW : FuncData} {k : Nat} (F : Fun K "_law_made" "_law_made" s_law_made f fd) (TB : BandTxt K mg CB) (TP : PressTxt K mg CP) (TW : WorkTxt K mg CW) (MB : Mk K CB fB) (MP : Mk K CP fP) (MW : Mk K CW fW)
    (GB : FnOk P w K mg base CX0 k fB fdB ["self", "name", "long", "pace"] (sp_Band_init CB)) (GP : FnOk P w K mg base CX0 k fP fdP ["self", "above", "below", "table", "rhythm"] (sp_Press_init CP)) (GW : FnOk P w K mg base CX0 k fW fdW ["self", "signs", "bands", "presses"] (sp_Work_init CW CB CP))
    (kB : KBn K fdB ["self", "name", "long", "pace"] 3 ["pace"] (fun us ws => us ++ ws) (fun vs zs => vs ++ zs)) (kP : KBn K fdP ["self", "above", "below", "table", "rhythm"] 4 ["rhythm"] (fun us ws => us ++ ws) (fun vs zs => vs ++ zs)) (bW : Binds K fdW ["self", "signs", "bands", "presses"] []) :
    FnOk P w K mg base CX0 (k + 2) f fd ["_law_raw_here"] (sp_made CW CB CP) := by
  refine F.ok scMade (fun vs H Q E h => ?_) (fun cdv A outer sh H vs Q E hr h => ?_)
  · obtain ⟨rd, k, rfl, _⟩ := h
    rfl
  · obtain ⟨rd, k, rfl, ⟨lb, lp, lq, l, m, qq, hrd, hlb, eb, hlp, ep, hlq, el⟩, ok, q⟩ := h
    refine ⟨_, pss_cons (ps_setLc (i := 1) (own := [("_law_name", 2), ("_law_wide", 3), ("_law_goes", 4)]) (g := gTup K 3 (gCons (gName 2) (gCons (gName 3) (gCons (gName 4) gNil)))) (tt := tYes) rfl scMade.nd rfl rfl (by rfl) (pi_list (pe_dget (hu_of hr) (pv 0) pe_str (fun _ _ => rfl)))
        (blkOk_by (own := [("_law_name", 2), ("_law_wide", 3), ("_law_goes", 4)]) (N := NsM) (sc := defScope s_law_made) (by decide +kernel))
        (fun _ _ _ _ _ => pg_tup rfl (pgs_cons (pg_name (i := 2) scMade.nd rfl (Or.inl rfl)) (pgs_cons (pg_name (i := 3) scMade.nd rfl (Or.inl rfl)) (pgs_cons (pg_name (i := 4) scMade.nd rfl (Or.inl rfl)) pgs_nil)))) (fun _ _ _ _ _ => pts_nil)
        (fun _ _ _ _ _ => pe_makeK MB GB hr (by rfl) TB.gC kB pass0 (pa_cons (pv 2) (pa_cons (pv 3) pa_nil)) (pk_cons (pv 4) pk_nil)))
      (pss_one (ps_ret (pe_make MW GW hr (by rfl) TW.gC bW .nil pass0 (pa_cons (pe_dget (hu_of hr) (pv 0) pe_str (fun _ _ => rfl)) (pa_cons (pv 1) (pa_cons (pe_lc (own := [("_law_up", 5), ("_law_low", 6), ("_law_rule", 7), ("_law_bar", 8)]) (g := gTup K 4 (gCons (gName 5) (gCons (gName 6) (gCons (gName 7) (gCons (gName 8) gNil))))) (tt := tYes) rfl scMade.nd (pi_list (pe_dget (hu_of hr) (pv 0) pe_str (fun _ _ => rfl)))
        (blkOk_by (own := [("_law_up", 5), ("_law_low", 6), ("_law_rule", 7), ("_law_bar", 8)]) (N := NsM) (sc := defScope s_law_made) (by decide +kernel))
        (fun _ _ _ _ _ => pg_tup rfl (pgs_cons (pg_name (i := 5) scMade.nd rfl (Or.inl rfl)) (pgs_cons (pg_name (i := 6) scMade.nd rfl (Or.inl rfl)) (pgs_cons (pg_name (i := 7) scMade.nd rfl (Or.inl rfl)) (pgs_cons (pg_name (i := 8) scMade.nd rfl (Or.inl rfl)) pgs_nil))))) (fun _ _ _ _ _ => pts_nil)
        (fun _ _ _ _ _ => pe_makeK MP GP hr (by rfl) TP.gC kP pass0 (pa_cons (pv 5) (pa_cons (pv 6) (pa_cons (pv 7) pa_nil))) (pk_cons (pv 8) pk_nil))) pa_nil)))))), ?_⟩
    have hraw : H rd = some (.dK (rawKvs k.signs lb lp lq)) := hrd
    have gb : DGet H rd (.str "bands") (some (.ref lb)) := raw_bands k.signs lb lp lq ▸ DGet.k (k := Sum.inr "bands") hraw
    have bl := ok.bs.hi
    refine ⟨.ref rd, rfl, rd, _, rfl, gb, lb, rfl, ⟨_, SqL.of hlb⟩, fun D nD => ?_⟩
    refine lc_v (walk_list (K := K) (a := lb) (xs := l)) (fun H1 sm => SqL.of (sm _ _ hlb)) (fun i H' r => ∃ ps : List Addr, r = ps.map V.ref ∧ AreBands CB H' ps (k.bands.take i)) (fun H1 => ⟨[], rfl, rfl, fun i p b h => by simp at h⟩) (fun i H1 r _ h => ?_) (fun i H1 H2 r kn h => ?_) nD ?_ ?_
    · obtain ⟨ps, rfl, ar⟩ := h
      rw [List.length_map, ar.1, List.length_take]
      omega
    · obtain ⟨ps, e, ar⟩ := h
      exact ⟨ps, e, ar.kn kn⟩
    · rintro i x H1 H2 r Qy Qn hi sm ⟨ps, rfl, ar⟩ ⟨rfl, hx⟩ qy _
      obtain ⟨b, ebi, t, rfl, ht⟩ := (eb.imp (RBand.kn (Kn.of sm))).at_ hx
      refine ⟨t, _, rfl, SqT.of ht, rfl, _, _, rfl, _, _, rfl, _, _, rfl, rfl, rfl, yes_kept ?_⟩
      refine ⟨.str (tx b.name), rfl, .int b.long, rfl, .int b.pace, rfl, rfl, rfl, fun y dy ny ndy ne => ?_⟩
      refine ⟨y, dy, b, rfl, ok.bs.each b (List.mem_of_getElem? ebi), upd_same, fun H5 at5 k5 => ⟨rfl, ?_⟩⟩
      have s5 := made_same ny ndy ne k5
      refine qy _ H5 s5 ⟨ps ++ [y], by rw [List.map_append]; rfl, ?_⟩
      rw [List.take_add_one, ebi]
      exact AreBands.snoc (ar.kn (Kn.of s5)) ⟨dy, at5⟩
    · rintro H1 r s1 ⟨ps, rfl, ar⟩ hD
      rw [eb.1, List.take_length] at ar
      have hraw1 := s1 _ _ hraw
      have gs : DGet H1 rd (.str "signs") (some (.str (tx k.signs))) := raw_signs k.signs lb lp lq ▸ DGet.k (k := Sum.inr "signs") hraw1
      have gp : DGet H1 rd (.str "presses") (some (.ref lp)) := raw_presses k.signs lb lp lq ▸ DGet.k (k := Sum.inr "presses") hraw1
      have hlp1 := s1 _ _ hlp
      have few := ok.few
      refine ⟨.ref rd, rfl, rd, _, rfl, gs, .ref D, rfl, .ref rd, rfl, rd, _, rfl, gp, lp, rfl, ⟨_, SqL.of hlp1⟩, fun D2 nD2 => ?_⟩
      refine lc_v (walk_list (K := K) (a := lp) (xs := m)) (fun H2 sm => SqL.of (sm _ _ hlp1)) (fun i H' r => Presses CP H' r (k.presses.take i)) (fun _ => Each.nil) (fun i H2 r _ h => ?_) (fun i H2 H3 r kn h => h.imp (RPress.kn kn)) nD2 ?_ ?_
      · rw [h.1, List.length_take]
        omega
      · rintro i x H2 H3 r Qy Qn hi sm pr ⟨rfl, hx⟩ qy _
        obtain ⟨b, ebi, t, a1, b1, t1, rfl, ht, pa⟩ := (ep.imp (RStamp.kn (Kn.of (s1.trans sm)))).at_ hx
        refine ⟨t, _, rfl, SqT.of ht, rfl, _, _, rfl, _, _, rfl, _, _, rfl, _, _, rfl, rfl, rfl, yes_kept ?_⟩
        refine ⟨.ref a1, rfl, .ref b1, rfl, .ref t1, rfl, .str (tx b.rhythm), rfl, rfl, rfl, fun y dy ny ndy ne => ?_⟩
        have sy : Same H3 (upd (upd H3 dy (.own y)) y (.ins CP dy [])) := fun c o e => by
          rw [upd_ne (ne_of_none e ny), upd_ne (ne_of_none e ndy)]
          exact e
        refine ⟨y, dy, a1, b1, t1, k.signs.length, b, rfl, (ok.fit b (List.mem_of_getElem? ebi)).ok, pa.kn (Kn.of sy), upd_same, fun H5 at5 k5 => ⟨rfl, ?_⟩⟩
        have s5 := made_same ny ndy ne k5
        refine qy _ H5 s5 ?_
        rw [List.take_add_one, ebi]
        exact (pr.imp (RPress.kn (Kn.of s5))).snoc ⟨y, rfl, dy, a1, b1, t1, at5, pa.kn (Kn.of s5)⟩
      · intro H2 r s2 pr hD2
        rw [ep.1, List.take_length] at pr
        refine fun y dy ny ndy ne => ?_
        have sy : Same H2 (upd (upd H2 dy (.own y)) y (.ins CW dy [])) := fun c o e => by
          rw [upd_ne (ne_of_none e ny), upd_ne (ne_of_none e ndy)]
          exact e
        refine ⟨y, dy, D, D2, ps, r, k, rfl, ok, sy _ _ (s2 _ _ hD), ar.kn (Kn.of (s2.trans sy)), sy _ _ hD2, pr.imp (RPress.kn (Kn.of sy)), upd_same, fun H5 iw k5 => ⟨rfl, ?_⟩⟩
        exact q y H5 ((s1.trans s2).trans (made_same ny ndy ne k5)) iw
end
end K05
set_option Elab.async false
set_option linter.all false
set_option maxRecDepth 100000
set_option maxHeartbeats 2000000
/-! Passes: the mathematics. -/
namespace K05
open PySem PySem.Spec PyProof.Rows L2 Bp
/-! ### counting -/
def cnt (p : Nat → Bool) (n : Nat) : Nat := ((List.range n).filter p).length
theorem cnt_zero (p : Nat → Bool) : cnt p 0 = 0 := rfl
theorem cnt_succ (p : Nat → Bool) (n : Nat) : cnt p (n + 1) = cnt p n + if p n = true then 1 else 0 := by
  unfold cnt
  rw [List.range_succ, List.filter_append, List.length_append]
  by_cases h : p n = true
  · rw [if_pos h]
    simp [h]
  · rw [if_neg h]
    simp [h]
theorem cnt_congr {p q : Nat → Bool} : ∀ {n : Nat}, (∀ i, i < n → p i = q i) → cnt p n = cnt q n
  | 0, _ => rfl
  | n + 1, h => by
    rw [cnt_succ, cnt_succ, cnt_congr fun i hi => h i (Nat.lt_succ_of_lt hi), h n (Nat.lt_succ_self n)]
theorem cnt_add (p : Nat → Bool) (n : Nat) : ∀ m, cnt p (n + m) = cnt p n + cnt (fun i => p (n + i)) m
  | 0 => rfl
  | m + 1 => by
    rw [← Nat.add_assoc, cnt_succ, cnt_add p n m, cnt_succ]
    omega
theorem per_mul {p : Nat → Bool} {c : Nat} (h : ∀ i, p (i + c) = p i) : ∀ (q i : Nat), p (c * q + i) = p i
  | 0, i => by rw [Nat.mul_zero, Nat.zero_add]
  | q + 1, i => by
    rw [Nat.mul_succ, show c * q + c + i = c * q + i + c by omega, h, per_mul h q i]
theorem cnt_mul {p : Nat → Bool} {c : Nat} (h : ∀ i, p (i + c) = p i) : ∀ q : Nat, cnt p (c * q) = q * cnt p c
  | 0 => by rw [Nat.mul_zero, Nat.zero_mul]; rfl
  | q + 1 => by
    rw [Nat.mul_succ, cnt_add, cnt_mul h q, cnt_congr (q := p) fun i _ => per_mul h q i, Nat.succ_mul]
theorem cnt_div {p : Nat → Bool} {c : Nat} (h : ∀ i, p (i + c) = p i) (n : Nat) : cnt p n = n / c * cnt p c + cnt p (n % c) := by
  have e : n = c * (n / c) + n % c := (Nat.div_add_mod n c).symm
  conv => lhs; rw [e]
  rw [cnt_add, cnt_mul h, cnt_congr (q := p) fun i _ => per_mul h _ i]
theorem cnt_none {p : Nat → Bool} : ∀ {n : Nat}, (∀ i, i < n → p i = false) → cnt p n = 0
  | 0, _ => rfl
  | n + 1, h => by
    rw [cnt_succ, cnt_none fun i hi => h i (Nat.lt_succ_of_lt hi), h n (Nat.lt_succ_self n)]
    rfl
theorem cnt_same {p : Nat → Bool} {a n : Nat} (h : a ≤ n) (no : ∀ i, a ≤ i → i < n → p i = false) : cnt p n = cnt p a := by
  obtain ⟨m, rfl⟩ := Nat.exists_eq_add_of_le h
  rw [cnt_add, cnt_none fun i hi => no _ (Nat.le_add_right _ _) (by omega)]
  rfl
/-- those below v among those below n -/
theorem flt_range (p : Nat → Bool) {v n : Nat} (h : v ≤ n) : (((List.range n).filter p).filter fun i => decide (i < v)) = (List.range v).filter p := by
  obtain ⟨m, rfl⟩ := Nat.exists_eq_add_of_le h
  rw [List.range_add, List.filter_append, List.filter_append]
  have e1 : ((List.range v).filter p).filter (fun i => decide (i < v)) = (List.range v).filter p := List.filter_eq_self.mpr fun i hi => decide_eq_true (List.mem_range.mp (List.mem_filter.mp hi).1)
  have e2 : (((List.range m).map (v + ·)).filter p).filter (fun i => decide (i < v)) = [] := List.filter_eq_nil_iff.mpr fun i hi => by
    obtain ⟨j, _, rfl⟩ := List.mem_map.mp (List.mem_filter.mp hi).1
    rw [decide_eq_true_eq]
    omega
  rw [e1, e2, List.append_nil]
/-! ### the beats of a rhythm, and of a place -/
def xAt (m : List Nat) (i : Nat) : Bool := decide (m.getD (i % m.length) 0 = 120)
theorem xAt_per {m : List Nat} {c : Nat} (h : m.length ∣ c) (i : Nat) : xAt m (i + c) = xAt m i := by
  obtain ⟨q, rfl⟩ := h
  unfold xAt
  rw [Nat.add_mul_mod_self_left]
theorem beatsL_cnt {m : List Nat} (h : 0 < m.length) (n : Nat) : beatsL m (n : Nat) = (cnt (xAt m) n : Nat) := by
  have e1 : spotsL m m.length = ((List.range m.length).filter (xAt m)).map fun i : Nat => (i : Int) := by
    unfold spotsL
    congr 1
    refine List.filter_congr fun i hi => ?_
    unfold xAt
    rw [Nat.mod_eq_of_lt (List.mem_range.mp hi)]
  have e2 : ((spotsL m m.length).filter fun x => decide (x < ((n : Nat) : Int) % (m.length : Int))).length = cnt (xAt m) (n % m.length) := by
    rw [e1, List.filter_map, List.length_map]
    have := flt_range (xAt m) (v := n % m.length) (n := m.length) (Nat.le_of_lt (Nat.mod_lt n h))
    unfold cnt
    rw [← this]
    congr 1
    refine List.filter_congr fun i _ => ?_
    show decide ((i : Int) < ((n : Nat) : Int) % (m.length : Int)) = decide (i < n % m.length)
    rw [← Int.natCast_emod]
    exact decide_eq_decide.mpr Int.ofNat_lt
  unfold beatsL
  rw [e2, e1, List.length_map, cnt_div (xAt_per (Nat.dvd_refl _)) n]
  show ((n : Nat) : Int) / (m.length : Int) * ((cnt (xAt m) m.length : Nat) : Int) + _ = _
  rw [← Int.natCast_ediv, Int.natCast_add, Int.natCast_mul]
theorem passB_per (b : BandL) (r : PressL) (up : Bool) (s : PlaceL) (i : Nat) : passB b r up s (i + commonL b r) = passB b r up s i := by
  have d1 : b.long ∣ commonL b r := Nat.dvd_lcm_left _ _
  have d2 : r.rhythm.length ∣ commonL b r := Nat.dvd_lcm_right _ _
  have e1 : (i + commonL b r) % r.rhythm.length = i % r.rhythm.length := by
    obtain ⟨q, hq⟩ := d2
    rw [hq, Nat.add_mul_mod_self_left]
  have e2 : goL b s (1 + ((i + commonL b r : Nat) : Int)) = goL b s (1 + (i : Int)) := by
    obtain ⟨q, hq⟩ := d1
    unfold goL
    have : (s.at_ : Int) + b.pace * (1 + ((i + commonL b r : Nat) : Int)) = ((s.at_ : Int) + b.pace * (1 + (i : Int))) + (b.long : Int) * (b.pace * q) := by
      rw [hq, Int.natCast_add, Int.natCast_mul, ← Int.add_assoc 1, Int.mul_add b.pace (1 + (i : Int)), Int.mul_left_comm b.pace, Int.add_assoc]
    rw [this, Int.add_mul_emod_self_left]
  unfold passB
  rw [e1, e2]
theorem restsL_len (b : BandL) (r : PressL) (up : Bool) (s : PlaceL) (n : Nat) : (restsL b r up s n).length = cnt (passB b r up s) n := by
  unfold restsL cnt
  rw [List.length_map]
theorem countL_cnt {b : BandL} {r : PressL} {up : Bool} {s : PlaceL} (h : 0 < commonL b r) (n : Nat) : countL b r up s (n : Nat) = (cnt (passB b r up s) n : Nat) := by
  have t : top0 (n : Nat) = (n : Int) := by
    unfold top0
    rw [if_neg (by omega)]
  unfold countL
  rw [t, restsL_len, cnt_div (passB_per b r up s) n]
  have e : ((restsL b r up s (commonL b r)).filter fun x => decide (x ≤ ((n : Nat) : Int) % (commonL b r : Int))).length = cnt (passB b r up s) (n % commonL b r) := by
    unfold restsL
    rw [List.filter_map, List.length_map]
    have := flt_range (passB b r up s) (v := n % commonL b r) (n := commonL b r) (Nat.le_of_lt (Nat.mod_lt n h))
    unfold cnt
    rw [← this]
    congr 1
    refine List.filter_congr fun i _ => ?_
    show decide (1 + (i : Int) ≤ ((n : Nat) : Int) % (commonL b r : Int)) = decide (i < n % commonL b r)
    rw [← Int.natCast_emod]
    exact decide_eq_decide.mpr (by omega)
  rw [e, ← Int.natCast_ediv, Int.natCast_add, Int.natCast_mul]
/-! ### the next one -/
def Nxt (p : Nat → Bool) (a : Nat) (z : Int) : Prop := ∃ n : Nat, z = (n : Int) + 1 ∧ a ≤ n ∧ p n = true ∧ ∀ i, a ≤ i → i < n → p i = false
theorem Nxt.uniq {p : Nat → Bool} {a : Nat} {y z : Int} (h1 : Nxt p a y) (h2 : Nxt p a z) : y = z := by
  obtain ⟨n, rfl, a1, p1, no1⟩ := h1
  obtain ⟨m, rfl, a2, p2, no2⟩ := h2
  rcases Nat.lt_trichotomy n m with lt | eq | gt
  · have := no2 n a1 lt
    rw [p1] at this
    cases this
  · rw [eq]
  · have := no1 m a2 gt
    rw [p2] at this
    cases this
def restsP (p : Nat → Bool) (c : Nat) : List Int := ((List.range c).filter p).map fun i : Nat => 1 + (i : Int)
theorem restsP_nil {p : Nat → Bool} {c : Nat} : restsP p c = [] ↔ ∀ i, i < c → p i = false := by
  unfold restsP
  rw [List.map_eq_nil_iff, List.filter_eq_nil_iff]
  constructor
  · intro h i hi
    have := h i (List.mem_range.mpr hi)
    simpa using this
  · intro h i hi
    rw [h i (List.mem_range.mp hi)]
    decide
theorem find_rests (p : Nat → Bool) (c v : Nat) : (restsP p c).find? (fun x => decide (x > (v : Int))) = ((List.range c).find? fun i => p i && decide (v ≤ i)).map fun i : Nat => 1 + (i : Int) := by
  unfold restsP
  rw [List.find?_map, List.find?_filter]
  congr 2
  funext i
  have e : ((fun x : Int => decide (x > (v : Int))) ∘ fun i : Nat => 1 + (i : Int)) i = decide (v ≤ i) := by
    show decide (1 + (i : Int) > (v : Int)) = decide (v ≤ i)
    exact decide_eq_decide.mpr (by omega)
  rw [e]
  by_cases h : p i = true
  · simp [h]
  · simp [h]
theorem nextP {p : Nat → Bool} {c : Nat} (c0 : 0 < c) (per : ∀ i, p (i + c) = p i) (a : Nat) (some_ : restsP p c ≠ []) : ∃ z, nextOf (restsP p c) (c : Nat) (a : Nat) = some z ∧ Nxt p a z := by
  have t : top0 (a : Nat) = (a : Int) := by
    unfold top0
    rw [if_neg (by omega)]
  unfold nextOf
  rw [if_neg some_, t]
  have dm := Nat.div_add_mod a c
  have ml := Nat.mod_lt a c0
  have cast : ((a : Nat) : Int) / (c : Int) = ((a / c : Nat) : Int) := (Int.natCast_ediv a c).symm
  have castm : ((a : Nat) : Int) % (c : Int) = ((a % c : Nat) : Int) := (Int.natCast_emod a c).symm
  rw [cast, castm]
  have ef := find_rests p c (a % c)
  rw [ef]
  cases h : (List.range c).find? fun i => p i && decide (a % c ≤ i) with
  | some i =>
    obtain ⟨h1, h2, h3⟩ := List.find?_range_eq_some.mp h
    rw [Bool.and_eq_true] at h1
    have vi : a % c ≤ i := of_decide_eq_true h1.2
    refine ⟨_, rfl, c * (a / c) + i, ?_, Nat.le_trans (Nat.le_of_eq dm.symm) (Nat.add_le_add_left vi _), ?_, fun j ja jn => ?_⟩
    · show ((a / c : Nat) : Int) * (c : Int) + (1 + (i : Int)) = _
      rw [Int.natCast_add, Int.natCast_mul, Int.mul_comm, Int.add_assoc, Int.add_comm 1]
    · rw [per_mul per]
      exact h1.1
    · obtain ⟨k, rfl⟩ := Nat.exists_eq_add_of_le (Nat.le_trans (Nat.mul_div_le a c) ja)
      have vk : a % c ≤ k := Nat.le_of_add_le_add_left (Nat.le_trans (Nat.le_of_eq dm) ja)
      have ki : k < i := Nat.lt_of_add_lt_add_left jn
      have q := h3 k ki
      rw [per_mul per]
      rw [decide_eq_true vk, Bool.and_true] at q
      simpa using q
  | none =>
    have no := List.find?_range_eq_none.mp h
    have hd : ∃ i0, (List.range c).find? p = some i0 := by
      cases e : (List.range c).find? p with
      | some i => exact ⟨i, rfl⟩
      | none =>
        have z := List.find?_range_eq_none.mp e
        exact absurd (restsP_nil.mpr fun i hi => by have := z i hi; simpa using this) some_
    obtain ⟨i0, hi0⟩ := hd
    obtain ⟨h1, h2, h3⟩ := List.find?_range_eq_some.mp hi0
    have eh : (restsP p c).headD 0 = 1 + (i0 : Int) := by
      unfold restsP
      rw [List.headD_eq_head?_getD, List.head?_map, List.head?_filter, hi0]
      rfl
    have i0c := List.mem_range.mp h2
    refine ⟨_, rfl, c * (a / c + 1) + i0, ?_, ?_, ?_, fun j ja jn => ?_⟩
    · rw [eh, Int.natCast_add, Int.natCast_mul, Int.natCast_add, Int.mul_comm, Int.add_assoc, Int.add_comm 1 (i0 : Int)]
      rfl
    · have : a ≤ c * (a / c) + c := Nat.le_trans (Nat.le_of_eq dm.symm) (Nat.add_le_add_left (Nat.le_of_lt ml) _)
      exact Nat.le_trans this (Nat.le_add_right _ _)
    · rw [per_mul per]
      exact h1
    · obtain ⟨k, rfl⟩ := Nat.exists_eq_add_of_le (Nat.le_trans (Nat.mul_div_le a c) ja)
      have vk : a % c ≤ k := Nat.le_of_add_le_add_left (Nat.le_trans (Nat.le_of_eq dm) ja)
      have kk : k < c + i0 := by
        rw [Nat.mul_add, Nat.mul_one, Nat.add_assoc] at jn
        exact Nat.lt_of_add_lt_add_left jn
      rw [per_mul per]
      rcases Nat.lt_or_ge k c with lt | ge
      · have q := no k lt
        rw [decide_eq_true vk, Bool.and_true] at q
        simpa using q
      · have q := h3 (k - c) (by omega)
        have e : k = (k - c) + c := by omega
        rw [e, per]
        simpa using q
theorem next_nil {p : Nat → Bool} {c : Nat} (h : restsP p c = []) (u : Int) : nextOf (restsP p c) (c : Nat) u = none := by
  unfold nextOf
  rw [if_pos h]
end K05
set_option Elab.async false
set_option linter.all false
set_option maxRecDepth 100000
set_option maxHeartbeats 2000000
/-! Passes over all places: the mathematics. -/
namespace K05
open PySem PySem.Spec PyProof.Rows L2 Bp
theorem mem_rangeP {b : BandL} {s : PlaceL} : s ∈ rangeP b b.long ↔ s.name = b.name ∧ s.at_ < b.long := by
  unfold rangeP
  constructor
  · intro h
    obtain ⟨i, hi, rfl⟩ := List.mem_map.mp h
    exact ⟨rfl, List.mem_range.mp hi⟩
  · rintro ⟨h1, h2⟩
    exact List.mem_map.mpr ⟨s.at_, List.mem_range.mpr h2, PlaceL.ext h1.symm rfl⟩
theorem rangeP_nd (b : BandL) (n : Nat) : (rangeP b n).Nodup := by
  unfold rangeP
  refine List.pairwise_map.mpr ((List.nodup_range (n := n)).imp fun {i j} ne z => ne ?_)
  exact congrArg PlaceL.at_ z
theorem goL_mem {b : BandL} {s : PlaceL} (h : s ∈ rangeP b b.long) (n : Int) : goL b s n ∈ rangeP b b.long := by
  obtain ⟨h1, h2⟩ := mem_rangeP.mp h
  have p : (0 : Int) < b.long := by omega
  have a0 := Int.emod_nonneg ((s.at_ : Int) + b.pace * n) (b := (b.long : Int)) (by omega)
  have a1 := Int.emod_lt_of_pos ((s.at_ : Int) + b.pace * n) (b := (b.long : Int)) p
  refine mem_rangeP.mpr ⟨h1, ?_⟩
  show (((s.at_ : Int) + b.pace * n) % (b.long : Int)).toNat < b.long
  omega
/-- there and back -/
theorem go_back {b : BandL} {s t : PlaceL} (hs : s ∈ rangeP b b.long) (ht : t ∈ rangeP b b.long) (n : Int) : goL b s n = t ↔ s = goL b t (-n) := by
  obtain ⟨s1, s2⟩ := mem_rangeP.mp hs
  obtain ⟨t1, t2⟩ := mem_rangeP.mp ht
  have key : ∀ (i j P L : Int), 0 ≤ i → i < L → 0 ≤ j → j < L → ((i + P) % L = j ↔ (j - P) % L = i) := by
    intro i j P L i0 i1 j0 j1
    constructor
    · intro h
      have e := Int.emod_def (i + P) L
      rw [h] at e
      have : j - P = i + L * (-((i + P) / L)) := by rw [Int.mul_neg]; omega
      rw [this, Int.add_mul_emod_self_left]
      exact Int.emod_eq_of_lt i0 i1
    · intro h
      have e := Int.emod_def (j - P) L
      rw [h] at e
      have : i + P = j + L * (-((j - P) / L)) := by rw [Int.mul_neg]; omega
      rw [this, Int.add_mul_emod_self_left]
      exact Int.emod_eq_of_lt j0 j1
  have k := key s.at_ t.at_ (b.pace * n) b.long (by omega) (by omega) (by omega) (by omega)
  have L0 : (b.long : Int) ≠ 0 := by omega
  have n1 := Int.emod_nonneg ((s.at_ : Int) + b.pace * n) L0
  have n2 := Int.emod_nonneg ((t.at_ : Int) - b.pace * n) L0
  constructor
  · intro h
    have h2 : (((s.at_ : Int) + b.pace * n) % (b.long : Int)).toNat = t.at_ := congrArg PlaceL.at_ h
    refine PlaceL.ext (s1.trans t1.symm) ?_
    show s.at_ = (((t.at_ : Int) + b.pace * (-n)) % (b.long : Int)).toNat
    rw [Int.mul_neg, ← Int.sub_eq_add_neg, k.mp (by omega)]
    rfl
  · intro h
    have h2 : s.at_ = (((t.at_ : Int) + b.pace * (-n)) % (b.long : Int)).toNat := congrArg PlaceL.at_ h
    rw [Int.mul_neg, ← Int.sub_eq_add_neg] at h2
    refine PlaceL.ext (s1.trans t1.symm) ?_
    show (((s.at_ : Int) + b.pace * n) % (b.long : Int)).toNat = t.at_
    rw [k.mpr (by omega)]
    rfl
theorem passB_eq {b : BandL} {r : PressL} {up : Bool} {s : PlaceL} (hs : s ∈ rangeP b b.long) (ht : r.stop up ∈ rangeP b b.long) (i : Nat) : passB b r up s i = (xAt r.rhythm i && decide (s = goL b (r.stop up) (-(1 + (i : Int))))) := by
  unfold passB xAt
  rw [Bool.decide_and]
  congr 1
  exact decide_eq_decide.mpr (go_back hs ht _)
theorem passB_x {b : BandL} {r : PressL} {up : Bool} {s : PlaceL} {i : Nat} (h : passB b r up s i = true) : xAt r.rhythm i = true := by
  unfold passB at h
  exact decide_eq_true (of_decide_eq_true h).1
theorem passB_other {b : BandL} {r : PressL} {up : Bool} {s : PlaceL} (h : s.name ≠ (r.stop up).name) (i : Nat) : passB b r up s i = false := by
  unfold passB
  refine decide_eq_false fun z => h ?_
  have := congrArg PlaceL.name z.2
  exact this
/-! ### sums -/
theorem sum_zero {α : Type} {l : List α} {f : α → Nat} (h : ∀ x ∈ l, f x = 0) : (l.map f).sum = 0 := by
  induction l with
  | nil => rfl
  | cons x l ih => rw [List.map_cons, List.sum_cons, h x (List.mem_cons_self ..), ih fun y hy => h y (List.mem_cons_of_mem _ hy)]
theorem sum_one {l : List PlaceL} {s0 : PlaceL} (nd : l.Nodup) (h : s0 ∈ l) : (l.map fun s => if s = s0 then 1 else 0).sum = 1 := by
  induction l with
  | nil => cases h
  | cons x l ih =>
    obtain ⟨n1, n2⟩ := List.nodup_cons.mp nd
    rw [List.map_cons, List.sum_cons]
    rcases List.mem_cons.mp h with e | hl
    · subst e
      rw [if_pos rfl, sum_zero fun y hy => if_neg fun z => n1 (by rw [← z]; exact hy)]
    · rw [if_neg fun z => n1 (by rw [z]; exact hl), ih n2 hl]
theorem sum_add {α : Type} (l : List α) (f g : α → Nat) : (l.map fun x => f x + g x).sum = (l.map f).sum + (l.map g).sum := by
  induction l with
  | nil => rfl
  | cons x l ih =>
    rw [List.map_cons, List.map_cons, List.map_cons, List.sum_cons, List.sum_cons, List.sum_cons, ih]
    omega
theorem sum_congr {α : Type} {l : List α} {f g : α → Nat} (h : ∀ x ∈ l, f x = g x) : (l.map f).sum = (l.map g).sum := by rw [List.map_congr_left h]
/-- all places of the band together -/
theorem sum_passes {b : BandL} {r : PressL} {up : Bool} (ht : r.stop up ∈ rangeP b b.long) : ∀ n, ((rangeP b b.long).map fun s => cnt (passB b r up s) n).sum = cnt (xAt r.rhythm) n
  | 0 => sum_zero fun _ _ => rfl
  | n + 1 => by
    have e : ((rangeP b b.long).map fun s => cnt (passB b r up s) (n + 1)).sum = ((rangeP b b.long).map fun s => cnt (passB b r up s) n + if passB b r up s n = true then 1 else 0).sum := sum_congr fun s _ => cnt_succ _ _
    rw [e, sum_add, sum_passes ht n, cnt_succ]
    congr 1
    by_cases x : xAt r.rhythm n = true
    · rw [if_pos x]
      have e2 : ((rangeP b b.long).map fun s => if passB b r up s n = true then 1 else 0).sum = ((rangeP b b.long).map fun s => if s = goL b (r.stop up) (-(1 + (n : Int))) then 1 else 0).sum := sum_congr fun s hs => by
        rw [passB_eq hs ht, x, Bool.true_and]
        by_cases z : s = goL b (r.stop up) (-(1 + (n : Int)))
        · rw [if_pos (decide_eq_true z), if_pos z]
        · rw [if_neg (by rw [decide_eq_false z]; decide), if_neg z]
      rw [e2]
      exact sum_one (rangeP_nd b _) (goL_mem ht _)
    · rw [if_neg x]
      exact sum_zero fun s _ => if_neg fun z => x (passB_x z)
/-! ### which band -/
def noBand : BandL := ⟨[], 0, 0⟩
def bandOf (bs : List BandL) (s : PlaceL) : BandL := (bs.find? fun b => decide (b.name = s.name)).getD noBand
theorem bandOf_mem {bs : List BandL} {s : PlaceL} (h : s ∈ placesL bs) : bandOf bs s ∈ bs ∧ (bandOf bs s).name = s.name := by
  obtain ⟨b, hb, h2⟩ := List.mem_flatMap.mp h
  obtain ⟨i, _, rfl⟩ := List.mem_map.mp h2
  unfold bandOf
  cases e : bs.find? fun c => decide (c.name = b.name) with
  | none =>
    have := List.find?_eq_none.mp e b hb
    exact absurd (decide_eq_true rfl) this
  | some c => exact ⟨List.mem_of_find?_eq_some e, of_decide_eq_true (List.find?_some (p := fun c : BandL => decide (c.name = b.name)) e)⟩
theorem same_band {bs : List BandL} (nd : (bs.map (·.name)).Nodup) {b c : BandL} (hb : b ∈ bs) (hc : c ∈ bs) (e : b.name = c.name) : b = c := by
  induction bs with
  | nil => cases hb
  | cons x bs ih =>
    obtain ⟨n1, n2⟩ := List.nodup_cons.mp (show (x.name :: bs.map (·.name)).Nodup from nd)
    rcases List.mem_cons.mp hb with e1 | hb'
    · rcases List.mem_cons.mp hc with e2 | hc'
      · exact e1.trans e2.symm
      · exact absurd (List.mem_map.mpr ⟨c, hc', e.symm.trans (congrArg BandL.name e1)⟩) n1
    · rcases List.mem_cons.mp hc with e2 | hc'
      · exact absurd (List.mem_map.mpr ⟨b, hb', e.trans (congrArg BandL.name e2)⟩) n1
      · exact ih n2 hb' hc'
theorem place_in_band {bs : List BandL} (nd : (bs.map (·.name)).Nodup) {b : BandL} {s : PlaceL} (hs : s ∈ placesL bs) (hb : b ∈ bs) (e : b.name = s.name) : s ∈ rangeP b b.long := by
  obtain ⟨c, hc, h2⟩ := List.mem_flatMap.mp hs
  obtain ⟨h3, h4⟩ := mem_rangeP.mp h2
  have : b = c := same_band nd hb hc (e.trans h3)
  rw [this]
  exact h2
theorem filter_name {bs : List BandL} (nd : (bs.map (·.name)).Nodup) {b : BandL} (hb : b ∈ bs) : (placesL bs).filter (fun s => decide (s.name = b.name)) = rangeP b b.long := by
  have all : ∀ c : BandL, c.name = b.name → (rangeP c c.long).filter (fun s => decide (s.name = b.name)) = rangeP c c.long := fun c e => List.filter_eq_self.mpr fun s hs => decide_eq_true ((mem_rangeP.mp hs).1.trans e)
  have none_ : ∀ c : BandL, c.name ≠ b.name → (rangeP c c.long).filter (fun s => decide (s.name = b.name)) = [] := fun c e => List.filter_eq_nil_iff.mpr fun s hs => by
    rw [decide_eq_true_eq]
    exact fun z => e ((mem_rangeP.mp hs).1.symm.trans z)
  have no : ∀ cs : List BandL, (∀ c ∈ cs, c.name ≠ b.name) → (placesL cs).filter (fun s => decide (s.name = b.name)) = [] := by
    intro cs
    induction cs with
    | nil => intro _; rfl
    | cons c cs ih =>
      intro h
      show (rangeP c c.long ++ placesL cs).filter _ = []
      rw [List.filter_append, none_ c (h c (List.mem_cons_self ..)), ih fun d hd => h d (List.mem_cons_of_mem _ hd)]
      rfl
  induction bs with
  | nil => cases hb
  | cons c bs ih =>
    obtain ⟨n1, n2⟩ := List.nodup_cons.mp (show (c.name :: bs.map (·.name)).Nodup from nd)
    show (rangeP c c.long ++ placesL bs).filter _ = _
    rw [List.filter_append]
    rcases List.mem_cons.mp hb with rfl | hb
    · rw [all _ rfl, no bs fun d hd z => n1 (List.mem_map.mpr ⟨d, hd, z⟩), List.append_nil]
    · rw [none_ c fun z => n1 (List.mem_map.mpr ⟨b, hb, z.symm⟩), ih n2 hb]
      rfl
/-- how often what stands at a place passes up to n -/
def upTo (bs : List BandL) (r : PressL) (up : Bool) (n : Nat) (s : PlaceL) : Nat := cnt (passB (bandOf bs s) r up s) n
theorem sum_filter {l : List PlaceL} {f : PlaceL → Nat} {p : PlaceL → Bool} (h : ∀ s ∈ l, p s = false → f s = 0) : ((l.filter p).map f).sum = (l.map f).sum := by
  induction l with
  | nil => rfl
  | cons x l ih =>
    have i := ih fun s hs => h s (List.mem_cons_of_mem _ hs)
    by_cases q : p x = true
    · rw [List.filter_cons_of_pos q, List.map_cons, List.map_cons, List.sum_cons, List.sum_cons, i]
    · rw [List.filter_cons_of_neg q, List.map_cons, List.sum_cons, i, h x (List.mem_cons_self ..) (by simpa using q)]
      omega
theorem sums {bs : List BandL} (nd : (bs.map (·.name)).Nodup) {r : PressL} {up : Bool} (ht : r.stop up ∈ placesL bs) (n : Nat) :
    (((placesL bs).filter fun s => decide (s.name = (r.stop up).name)).map (upTo bs r up n)).sum = cnt (xAt r.rhythm) n ∧ ((placesL bs).map (upTo bs r up n)).sum = cnt (xAt r.rhythm) n := by
  obtain ⟨b1, b2⟩ := bandOf_mem ht
  have inb := place_in_band nd ht b1 b2
  have e1 : (((placesL bs).filter fun s => decide (s.name = (r.stop up).name)).map (upTo bs r up n)).sum = cnt (xAt r.rhythm) n := by
    rw [← b2, filter_name nd b1, ← sum_passes inb n]
    refine sum_congr fun s hs => ?_
    have hs2 : s ∈ placesL bs := List.mem_flatMap.mpr ⟨_, b1, hs⟩
    obtain ⟨c1, c2⟩ := bandOf_mem hs2
    have : bandOf bs s = bandOf bs (r.stop up) := same_band nd c1 b1 (c2.trans (mem_rangeP.mp hs).1)
    unfold upTo
    rw [this]
  refine ⟨e1, ?_⟩
  rw [← e1, sum_filter]
  intro s _ h
  exact cnt_none fun i _ => passB_other (of_decide_eq_false h) i
/-! ### who passes next -/
structure Ahead (b : BandL) (r : PressL) (up : Bool) (a n0 : Nat) (s0 : PlaceL) : Prop where
  le : a ≤ n0
  x : xAt r.rhythm n0 = true
  no : ∀ i, a ≤ i → i < n0 → xAt r.rhythm i = false
  is : s0 = goL b (r.stop up) (-(1 + (n0 : Int)))
theorem Ahead.mem {b : BandL} {r : PressL} {up : Bool} {a n0 : Nat} {s0 : PlaceL} (h : Ahead b r up a n0 s0) (ht : r.stop up ∈ rangeP b b.long) : s0 ∈ rangeP b b.long := h.is ▸ goL_mem ht _
theorem Ahead.pass {b : BandL} {r : PressL} {up : Bool} {a n0 : Nat} {s0 : PlaceL} (h : Ahead b r up a n0 s0) (ht : r.stop up ∈ rangeP b b.long) : passB b r up s0 n0 = true := by
  rw [passB_eq (h.mem ht) ht, h.x, Bool.true_and]
  exact decide_eq_true h.is
theorem Ahead.noPass {b : BandL} {r : PressL} {up : Bool} {a n0 : Nat} {s0 : PlaceL} (h : Ahead b r up a n0 s0) (s : PlaceL) (i : Nat) (h1 : a ≤ i) (h2 : i < n0) : passB b r up s i = false := by
  cases e : passB b r up s i with
  | false => rfl
  | true =>
    have := h.no i h1 h2
    rw [passB_x e] at this
    cases this
theorem Ahead.next {b : BandL} {r : PressL} {up : Bool} {a n0 : Nat} {s0 : PlaceL} (h : Ahead b r up a n0 s0) (ht : r.stop up ∈ rangeP b b.long) : Nxt (passB b r up s0) a ((n0 : Int) + 1) :=
  ⟨n0, rfl, h.le, h.pass ht, fun i h1 h2 => h.noPass s0 i h1 h2⟩
theorem Ahead.others {b : BandL} {r : PressL} {up : Bool} {a n0 : Nat} {s0 s : PlaceL} {z : Int} (h : Ahead b r up a n0 s0) (ht : r.stop up ∈ rangeP b b.long) (hs : s ∈ rangeP b b.long) (ne : s ≠ s0) (hz : Nxt (passB b r up s) a z) : (n0 : Int) + 1 < z := by
  obtain ⟨n, rfl, an, pn, _⟩ := hz
  rcases Nat.lt_trichotomy n n0 with lt | eq | gt
  · rw [h.noPass s n an lt] at pn
    cases pn
  · rw [eq, passB_eq hs ht, h.x, Bool.true_and] at pn
    exact absurd ((of_decide_eq_true pn).trans h.is.symm) ne
  · omega
theorem unlike {b : BandL} {r : PressL} {up : Bool} {a : Nat} {s t : PlaceL} {z : Int} (ht : r.stop up ∈ rangeP b b.long) (h1 : s ∈ rangeP b b.long) (h2 : t ∈ rangeP b b.long) (e1 : Nxt (passB b r up s) a z) (e2 : Nxt (passB b r up t) a z) : s = t := by
  obtain ⟨n, rfl, _, p1, _⟩ := e1
  obtain ⟨m, em, _, p2, _⟩ := e2
  have : n = m := by omega
  subst this
  rw [passB_eq h1 ht, Bool.and_eq_true] at p1
  rw [passB_eq h2 ht, Bool.and_eq_true] at p2
  exact (of_decide_eq_true p1.2).trans (of_decide_eq_true p2.2).symm
/-! ### again and again -/
theorem restsP_get {p : Nat → Bool} {c j : Nat} {z : Int} (h : (restsP p c)[j]? = some z) : ∃ i : Nat, z = 1 + (i : Int) ∧ i < c ∧ p i = true := by
  unfold restsP at h
  rw [List.getElem?_map] at h
  cases e : ((List.range c).filter p)[j]? with
  | none =>
    rw [e] at h
    cases h
  | some i =>
    rw [e] at h
    have m := List.mem_filter.mp (List.mem_of_getElem? e)
    exact ⟨i, (Option.some.inj h).symm, List.mem_range.mp m.1, m.2⟩
theorem restsP_up (p : Nat → Bool) (c : Nat) : (restsP p c).Pairwise (· < ·) := by
  unfold restsP
  refine List.pairwise_map.mpr ?_
  refine List.Pairwise.imp ?_ (List.pairwise_lt_range (n := c) |>.filter p)
  intro i j h
  omega
theorem restsP_mem {p : Nat → Bool} {c i : Nat} (hi : i < c) (h : p i = true) : 1 + (i : Int) ∈ restsP p c := by
  unfold restsP
  exact List.mem_map.mpr ⟨i, List.mem_filter.mpr ⟨List.mem_range.mpr hi, h⟩, rfl⟩
/-- no pass between two neighbours -/
theorem between {p : Nat → Bool} {c j : Nat} {y z : Int} (h1 : (restsP p c)[j]? = some y) (h2 : (restsP p c)[j + 1]? = some z) (i : Nat) (hy : y ≤ i) (hz : (i : Int) + 1 < z) : p i = false := by
  cases e : p i with
  | false => rfl
  | true =>
    obtain ⟨k, ek, kc, _⟩ := restsP_get h2
    have m := restsP_mem (c := c) (show i < c by omega) e
    obtain ⟨l, hl⟩ := List.mem_iff_getElem?.mp m
    have up := restsP_up p c
    have lt : ∀ {u v : Nat} {x x' : Int}, u < v → (restsP p c)[u]? = some x → (restsP p c)[v]? = some x' → x < x' := fun {u v x x'} uv e1 e2 => by
      obtain ⟨a1, a2⟩ := List.getElem?_eq_some_iff.mp e1
      obtain ⟨b1, b2⟩ := List.getElem?_eq_some_iff.mp e2
      rw [← a2, ← b2]
      exact List.pairwise_iff_getElem.mp up u v a1 b1 uv
    rcases Nat.lt_trichotomy l j with q | q | q
    · have := lt q hl h1
      omega
    · rw [q, h1] at hl
      have := Option.some.inj hl
      omega
    · rcases Nat.lt_trichotomy l (j + 1) with q2 | q2 | q2
      · omega
      · rw [q2, h2] at hl
        have := Option.some.inj hl
        omega
      · have := lt q2 h2 hl
        omega
theorem before_first {p : Nat → Bool} {c : Nat} {z : Int} (h : (restsP p c)[0]? = some z) (i : Nat) (hz : (i : Int) + 1 < z) : p i = false := by
  cases e : p i with
  | false => rfl
  | true =>
    obtain ⟨k, ek, kc, _⟩ := restsP_get h
    have m := restsP_mem (c := c) (show i < c by omega) e
    obtain ⟨l, hl⟩ := List.mem_iff_getElem?.mp m
    rcases Nat.eq_zero_or_pos l with q | q
    · rw [q, h] at hl
      have := Option.some.inj hl
      omega
    · obtain ⟨a1, a2⟩ := List.getElem?_eq_some_iff.mp h
      obtain ⟨b1, b2⟩ := List.getElem?_eq_some_iff.mp hl
      have := List.pairwise_iff_getElem.mp (restsP_up p c) 0 l a1 b1 q
      omega
theorem after_last {p : Nat → Bool} {c j : Nat} {y : Int} (h : (restsP p c)[j]? = some y) (last : (restsP p c).length = j + 1) (i : Nat) (hy : y ≤ i) (hc : i < c) : p i = false := by
  cases e : p i with
  | false => rfl
  | true =>
    have m := restsP_mem hc e
    obtain ⟨l, hl⟩ := List.mem_iff_getElem?.mp m
    have ll := (List.getElem?_eq_some_iff.mp hl).1
    rcases Nat.lt_trichotomy l j with q | q | q
    · obtain ⟨a1, a2⟩ := List.getElem?_eq_some_iff.mp hl
      obtain ⟨b1, b2⟩ := List.getElem?_eq_some_iff.mp h
      have := List.pairwise_iff_getElem.mp (restsP_up p c) l j a1 b1 q
      omega
    · rw [q, h] at hl
      have := Option.some.inj hl
      omega
    · omega
/-- what is told, turn by turn, from a whole round on -/
def told (rs : List Int) (B c : Int) (j : Nat) : Int := if j < rs.length then B + rs.getD j 0 else B + c + rs.headD 0
/-- the beat from which the j-th one is asked -/
def asked (rs : List Int) (B c : Int) : Nat → Int
  | 0 => B
  | j + 1 => told rs B c j
theorem tell_next {p : Nat → Bool} {c q : Nat} (c0 : 0 < c) (per : ∀ i, p (i + c) = p i) (ne : restsP p c ≠ []) (j : Nat) (hj : j ≤ (restsP p c).length) :
    nextOf (restsP p c) (c : Nat) (asked (restsP p c) ((c * q : Nat) : Int) (c : Int) j) = some (told (restsP p c) ((c * q : Nat) : Int) (c : Int) j) := by
  have len := List.length_pos_iff.mpr ne
  obtain ⟨z0, hz0⟩ : ∃ z, (restsP p c)[0]? = some z := ⟨_, List.getElem?_eq_getElem len⟩
  have h0 : (restsP p c).headD 0 = z0 := by
    rw [List.headD_eq_head?_getD, List.head?_eq_getElem?, hz0]
    rfl
  obtain ⟨i0, rfl, i0c, p0⟩ := restsP_get hz0
  have getD : ∀ {j : Nat} {z : Int}, (restsP p c)[j]? = some z → (restsP p c).getD j 0 = z := fun {j z} h => by
    rw [List.getD_eq_getElem?_getD, h]
    rfl
  -- a natural number from which one asks
  have key : ∀ (a : Nat) (n : Nat), a ≤ n → p n = true → (∀ i, a ≤ i → i < n → p i = false) → nextOf (restsP p c) (c : Nat) (a : Nat) = some ((n : Int) + 1) := by
    intro a n h1 h2 h3
    obtain ⟨z, e, hz⟩ := nextP c0 per a ne
    rw [e]
    exact congrArg some (hz.uniq ⟨n, rfl, h1, h2, h3⟩)
  have pm := per_mul per
  have first : ∀ Q : Nat, nextOf (restsP p c) (c : Nat) ((c * Q : Nat) : Int) = some (((c * Q : Nat) : Int) + (1 + (i0 : Int))) := fun Q => by
    rw [key (c * Q) (c * Q + i0) (Nat.le_add_right _ _) (by rw [pm]; exact p0) fun i h1 h2 => ?_]
    · rw [Int.natCast_add]
      congr 1
      omega
    · obtain ⟨k, rfl⟩ := Nat.exists_eq_add_of_le h1
      rw [pm]
      exact before_first hz0 k (by omega)
  cases j with
  | zero =>
    show nextOf _ _ ((c * q : Nat) : Int) = _
    rw [first q]
    unfold told
    rw [if_pos len, getD hz0]
  | succ j =>
    have jl : j < (restsP p c).length := hj
    obtain ⟨y, hy⟩ : ∃ y, (restsP p c)[j]? = some y := ⟨_, List.getElem?_eq_getElem jl⟩
    obtain ⟨iy, ey, iyc, py⟩ := restsP_get hy
    show nextOf _ _ (told _ _ _ j) = _
    have t1 : told (restsP p c) ((c * q : Nat) : Int) (c : Int) j = ((c * q + (iy + 1) : Nat) : Int) := by
      unfold told
      rw [if_pos jl, getD hy, ey]
      omega
    rw [t1]
    unfold told
    by_cases last : j + 1 < (restsP p c).length
    · rw [if_pos last]
      obtain ⟨z, hz⟩ : ∃ z, (restsP p c)[j + 1]? = some z := ⟨_, List.getElem?_eq_getElem last⟩
      obtain ⟨iz, ez, izc, pz⟩ := restsP_get hz
      have lt : y < z := by
        obtain ⟨a1, a2⟩ := List.getElem?_eq_some_iff.mp hy
        obtain ⟨b1, b2⟩ := List.getElem?_eq_some_iff.mp hz
        have := List.pairwise_iff_getElem.mp (restsP_up p c) j (j + 1) a1 b1 (Nat.lt_succ_self j)
        omega
      rw [getD hz, key (c * q + (iy + 1)) (c * q + iz) (by omega) (by rw [pm]; exact pz) fun i h1 h2 => ?_]
      · rw [Int.natCast_add, ez]
        congr 1
        omega
      · obtain ⟨k, rfl⟩ := Nat.exists_eq_add_of_le (Nat.le_trans (Nat.le_add_right _ _) h1)
        rw [pm]
        exact between hy hz k (by omega) (by omega)
    · rw [if_neg last, h0]
      have el : (restsP p c).length = j + 1 := by omega
      rw [key (c * q + (iy + 1)) (c * (q + 1) + i0) (by rw [Nat.mul_add, Nat.mul_one]; omega) (by rw [pm]; exact p0) fun i h1 h2 => ?_]
      · rw [Nat.mul_add, Nat.mul_one, Int.natCast_add, Int.natCast_add]
        congr 1
        omega
      · obtain ⟨k, rfl⟩ := Nat.exists_eq_add_of_le (Nat.le_trans (Nat.le_add_right _ _) h1)
        rw [pm]
        rw [Nat.mul_add, Nat.mul_one] at h2
        rcases Nat.lt_or_ge k c with lt | ge
        · exact after_last hy el k (by omega) lt
        · have e : k = (k - c) + c := by omega
          rw [e, per]
          exact before_first hz0 (k - c) (by omega)
end K05
set_option Elab.async false
set_option linter.all false
set_option maxRecDepth 100000
set_option maxHeartbeats 2000000
/-! What stays while digits are drawn; how upto binds. -/
namespace K05
open PySem PySem.Spec PyProof.Rows L2 Bp
/-- all but dicts of texts stays -/
def Kd (H H' : Hp) : Prop := ∀ b o, (∀ kvs, o ≠ HO.dK kvs) → H b = some o → H' b = some o
theorem Kd.kept {K : PySem.W.Frag} {H H' : Hp} {g : Fed} {n : Nat} (f : FeedAt K H g n) (k : Kept g.f H H') : Kd H H' := fun b o m e => by
  obtain ⟨kvs, ek⟩ := f.dict
  refine k b o (fun z => ?_) e
  rw [z, ek] at e
  exact m _ (Option.some.inj e).symm
theorem Kd.kt {H H' : Hp} (k : Kd H H') : Kt H H' := fun b o _ m e => k b o m e
theorem IsBand.kt {C : Addr} {H H' : Hp} {p : Addr} {b : BandL} (h : IsBand C H p b) (k : Kt H H') : IsBand C H' p b := by
  obtain ⟨dx, e⟩ := h
  exact ⟨dx, k _ _ (by intro xs z; cases z) (by intro xs z; cases z) e⟩
theorem IsPress.kt {C : Addr} {H H' : Hp} {p : Addr} {r : PressL} (h : IsPress C H p r) (k : Kt H H') : IsPress C H' p r := by
  obtain ⟨dx, a, b, t, e, z⟩ := h
  exact ⟨dx, a, b, t, k _ _ (by intro xs z; cases z) (by intro xs z; cases z) e, z.kt k⟩
theorem IsWork.kd {CW CB CP p : Addr} {H H' : Hp} {k : WorkL} (h : IsWork CW CB CP H p k) (s : Kd H H') : IsWork CW CB CP H' p k := by
  obtain ⟨dx, tb, tp, lp, dn, e, z⟩ := h
  obtain ⟨ps, e1, h1⟩ := z.bs
  obtain ⟨m, e2, h2⟩ := z.rs
  obtain ⟨l, e3, h3⟩ := z.ls
  refine ⟨dx, tb, tp, lp, dn, s _ _ (by intro xs z; cases z) e, ⟨⟨ps, s _ _ (by intro xs z; cases z) e1, h1.1, fun i q b a1 a2 => (h1.2 i q b a1 a2).kt s.kt⟩, ⟨m, s _ _ (by intro xs z; cases z) e2, h2.imp fun v x hx => ?_⟩, ⟨l, s _ _ (by intro xs z; cases z) e3, h3.imp (RPlace.kt s.kt)⟩, s _ _ (by intro xs z; cases z) z.ns⟩⟩
  obtain ⟨q, eq, hq⟩ := hx
  exact ⟨q, eq, hq.kt s.kt⟩
theorem IsRaw.kd {H H' : Hp} {rd : Addr} {k : WorkL} {g : Addr} (h : IsRaw H rd k) (ne : rd ≠ g) (kp : Kept g H H') (s : Kd H H') : IsRaw H' rd k := by
  obtain ⟨lb, lp, lq, l, m, q, hrd, hlb, eb, hlp, ep, hlq, el⟩ := h
  exact ⟨lb, lp, lq, l, m, q, kp _ _ ne hrd, s _ _ (by intro xs z; cases z) hlb, eb.imp (RBand.kt s.kt), s _ _ (by intro xs z; cases z) hlp, ep.imp (RStamp.kt s.kt), s _ _ (by intro xs z; cases z) hlq, el.imp (RPlace.kt s.kt)⟩
theorem IsRaw.same {H H' : Hp} {rd : Addr} {k : WorkL} (h : IsRaw H rd k) (s : Same H H') : IsRaw H' rd k := by
  obtain ⟨lb, lp, lq, l, m, q, hrd, hlb, eb, hlp, ep, hlq, el⟩ := h
  exact ⟨lb, lp, lq, l, m, q, s _ _ hrd, s _ _ hlb, eb.imp (RBand.kt (Kt.of s)), s _ _ hlp, ep.imp (RStamp.kt (Kt.of s)), s _ _ hlq, el.imp (RPlace.kt (Kt.of s))⟩
/-- a work, what it was made of, and the feed -/
structure Scene (K : PySem.W.Frag) (CW CB CP : Addr) (g : Fed) (p rd : Addr) (k : WorkL) (n : Nat) (H : Hp) : Prop where
  iw : IsWork CW CB CP H p k
  ir : IsRaw H rd k
  ne : rd ≠ g.f
  fe : FeedAt K H g n
section
variable {K : PySem.W.Frag} {CW CB CP : Addr} {g : Fed} {p rd : Addr} {k : WorkL} {n m : Nat} {H H' : Hp}
theorem Scene.same (h : Scene K CW CB CP g p rd k n H) (s : Same H H') : Scene K CW CB CP g p rd k n H' := ⟨h.iw.same s, h.ir.same s, h.ne, h.fe.same s⟩
theorem Scene.draw (h : Scene K CW CB CP g p rd k n H) (kp : Kept g.f H H') (fe : FeedAt K H' g m) : Scene K CW CB CP g p rd k m H' :=
  ⟨h.iw.kd (Kd.kept h.fe kp), h.ir.kd h.ne kp (Kd.kept h.fe kp), h.ne, fe⟩
theorem Scene.le (h : Scene K CW CB CP g p rd k n H) (l : n ≤ m) : Scene K CW CB CP g p rd k m H := ⟨h.iw, h.ir, h.ne, h.fe.le l⟩
theorem get_bands {lb lp lq : Addr} {s : List Nat} (hrd : H rd = some (.dK (rawKvs s lb lp lq))) : DGet H rd (.str "bands") (some (.ref lb)) := raw_bands s lb lp lq ▸ DGet.k (k := Sum.inr "bands") hrd
theorem get_presses {lb lp lq : Addr} {s : List Nat} (hrd : H rd = some (.dK (rawKvs s lb lp lq))) : DGet H rd (.str "presses") (some (.ref lp)) := raw_presses s lb lp lq ▸ DGet.k (k := Sum.inr "presses") hrd
theorem get_places {lb lp lq : Addr} {s : List Nat} (hrd : H rd = some (.dK (rawKvs s lb lp lq))) : DGet H rd (.str "places") (some (.ref lq)) := raw_places s lb lp lq ▸ DGet.k (k := Sum.inr "places") hrd
variable {f : Addr} {fd : FuncData}
theorem kb_how (F : Fun K "how_many_passes" "how_many_passes" s_how_many_passes f fd) : KBn K fd ["work", "press", "side", "place", "upto"] 4 ["upto"] (fun us ws => us ++ ws) (fun vs zs => vs ++ zs) := by
  obtain ⟨oc, od, kV, doc, pm, an, cdv, ct, osl, rfl, lk, hcd⟩ := F.ex
  refine ⟨fun s us ws X hu hw => ?_, fun a c => a.append c⟩
  match us, ws, hu, hw with
  | [_, _, _, _], [_], _, _ => exact .of_eq rfl
end
end K05
set_option Elab.async false
set_option linter.all false
set_option maxRecDepth 100000
set_option maxHeartbeats 2000000
/-! Who passes next, told as pairs. -/
namespace K05
open PySem PySem.Spec PyProof.Rows L2 Bp
def RNx : Hp → V → Option Int × PlaceL → Prop := fun H v x => ∃ t tp, v = .ref t ∧ H t = some (.tup [optV x.1, .ref tp]) ∧ IsPlace H tp x.2
theorem RNx.kt {H H' : Hp} (k : Kt H H') : ∀ v x, RNx H v x → RNx H' v x := fun v x ⟨t, tp, e, h, p⟩ => ⟨t, tp, e, k _ _ (by intro xs z; cases z) (by intro xs z; cases z) h, p.kt k⟩
/-- a pair's number, and what stands behind it -/
def numAt (H : Hp) : V → Int
  | .ref t => match H t with
    | some (.tup [.int z, _]) => z
    | _ => 0
  | _ => 0
def restAt (H : Hp) : V → V
  | .ref t => match H t with
    | some (.tup [_, z]) => z
    | _ => .non
  | _ => .non
theorem numAt_of {H : Hp} {t : Addr} {z : Int} {v : V} (h : H t = some (.tup [.int z, v])) : numAt H (.ref t) = z := by
  unfold numAt
  simp only [h]
theorem restAt_of {H : Hp} {t : Addr} {z v : V} (h : H t = some (.tup [z, v])) : restAt H (.ref t) = v := by
  unfold restAt
  simp only [h]
theorem nodup_get {α : Type} {l : List α} (nd : l.Nodup) {i j : Nat} {x : α} (h1 : l[i]? = some x) (h2 : l[j]? = some x) : i = j := by
  obtain ⟨a1, a2⟩ := List.getElem?_eq_some_iff.mp h1
  obtain ⟨b1, b2⟩ := List.getElem?_eq_some_iff.mp h2
  have pw := List.pairwise_iff_getElem.mp nd
  rcases Nat.lt_trichotomy i j with z | z | z
  · exact absurd (a2.trans b2.symm) (pw i j a1 b1 z)
  · exact z
  · exact absurd (b2.trans a2.symm) (pw j i b1 a1 z)
theorem least_from {p : Nat → Bool} : ∀ (d a : Nat), p (a + d) = true → ∃ n, a ≤ n ∧ p n = true ∧ ∀ i, a ≤ i → i < n → p i = false
  | 0, a, h => ⟨a, Nat.le_refl a, h, fun i h1 h2 => absurd h2 (Nat.not_lt.mpr h1)⟩
  | d + 1, a, h => by
    cases e : p a with
    | true => exact ⟨a, Nat.le_refl a, e, fun i h1 h2 => absurd h2 (Nat.not_lt.mpr h1)⟩
    | false =>
      obtain ⟨n, n1, n2, n3⟩ := least_from d (a + 1) (by rw [show a + 1 + d = a + (d + 1) by omega]; exact h)
      refine ⟨n, by omega, n2, fun i h1 h2 => ?_⟩
      rcases Nat.lt_or_ge a i with lt | ge
      · exact n3 i lt h2
      · have : i = a := by omega
        rw [this]
        exact e
theorem xAt_some {m : List Nat} (h : 120 ∈ m) (a : Nat) : ∃ n, a ≤ n ∧ xAt m n = true ∧ ∀ i, a ≤ i → i < n → xAt m i = false := by
  obtain ⟨j, hj⟩ := List.mem_iff_getElem?.mp h
  have jl := (List.getElem?_eq_some_iff.mp hj).1
  have m0 : 0 < m.length := by omega
  have le : a ≤ m.length * (a + 1) + j := Nat.le_trans (Nat.le_trans (Nat.le_succ a) (Nat.le_mul_of_pos_left _ m0)) (Nat.le_add_right _ _)
  refine least_from (m.length * (a + 1) + j - a) a ?_
  rw [Nat.add_sub_cancel' le]
  unfold xAt
  rw [Nat.mul_add_mod, Nat.mod_eq_of_lt jl, List.getD_eq_getElem?_getD, hj]
  rfl
theorem xAt_none {m : List Nat} (h : 120 ∉ m) (n : Nat) : xAt m n = false := by
  unfold xAt
  refine decide_eq_false fun z => h ?_
  rw [List.getD_eq_getElem?_getD] at z
  cases e : m[n % m.length]? with
  | none =>
    rw [e] at z
    cases z
  | some c =>
    rw [e] at z
    have : c = 120 := z
    rw [← this]
    exact List.mem_of_getElem? e
theorem xAt_get {m : List Nat} (h : 0 < m.length) (n : Nat) : ∃ c, m[n % m.length]? = some c ∧ (xAt m n = true ↔ c = 120) := by
  have lt := Nat.mod_lt n h
  refine ⟨_, List.getElem?_eq_getElem lt, ?_⟩
  unfold xAt
  rw [List.getD_eq_getElem?_getD, List.getElem?_eq_getElem lt, decide_eq_true_eq]
  rfl
/-! ### as data -/
def pairD (z : Int) (s : PlaceL) : PyData := .tuple [.int z, placeD s]
theorem lay_pair {z : Int} {s : PlaceL} (h : Low s.name) : PyData.canLay0 (pairD z s) = true := by
  unfold pairD
  rw [PyData.canLay0, PyData.canLayAll0, PyData.canLayAll0, PyData.canLayAll0, PyData.canLay0, lay_place h]
  rfl
theorem depth_pair (z : Int) (s : PlaceL) : PyData.depth (pairD z s) = 2 := by
  unfold pairD
  rw [PyData.depth, PyData.depthAll, PyData.depthAll, PyData.depthAll, PyData.depth, depth_place]
  rfl
theorem dps_pairs {K : PySem.W.Frag} {H : Hp} : ∀ {ys : List V}, (∀ y ∈ ys, ∃ t tp z s, y = .ref t ∧ H t = some (.tup [.int z, .ref tp]) ∧ IsPlace H tp s ∧ Low s.name) → ∃ ds, DpAll K H ys ds ∧ PyData.canLayAll0 ds = true ∧ PyData.depthAll ds ≤ 2 ∧ ds.length = ys.length
  | [], _ => ⟨[], .nil, by rw [PyData.canLayAll0], by rw [PyData.depthAll]; exact Nat.zero_le _, rfl⟩
  | y :: ys, h => by
    obtain ⟨ds, h1, h2, h3, h4⟩ := dps_pairs (ys := ys) fun x hx => h x (List.mem_cons_of_mem _ hx)
    obtain ⟨t, tp, z, s, rfl, ht, hp, lw⟩ := h y (List.mem_cons_self ..)
    refine ⟨pairD z s :: ds, .cons (.tup (SqT.of ht) (.cons (.int z) (.cons (dp_place hp) .nil))) h1, ?_, ?_, by rw [List.length_cons, List.length_cons, h4]⟩
    · rw [PyData.canLayAll0, h2, lay_pair lw]
      rfl
    · rw [PyData.depthAll, depth_pair]
      omega
theorem shaped_all {ds : List PyData} (h1 : PyData.canLayAll0 ds = true) (h2 : PyData.depthAll ds ≤ 2) : SeqAt.shaped (.list ds) = true := by
  unfold SeqAt.shaped
  rw [PyData.canLay0, h1, PyData.depth, Bool.true_and]
  exact decide_eq_true (by omega)
theorem eqv_some {ds : List PyData} (h : ds ≠ []) : PyData.eqv (.list ds) (.list []) = false := by
  cases ds with
  | nil => exact absurd rfl h
  | cons d ds => rw [PyData.eqv, PyData.eqvAll]
/-! ### sorted -/
theorem map_num {H : Hp} {xs : List V} {AL : List (Option Int × PlaceL)} (h : Each RNx H xs AL) (so : ∀ x ∈ AL, x.1.isSome = true) : xs.map (numAt H) = AL.map fun x => x.1.getD 0 := by
  refine List.ext_getElem? fun i => ?_
  rw [List.getElem?_map, List.getElem?_map]
  cases e : xs[i]? with
  | none =>
    have : AL[i]? = none := by
      rw [List.getElem?_eq_none_iff] at e ⊢
      rw [← h.1]
      exact e
    rw [this]
    rfl
  | some v =>
    obtain ⟨x, ex, t, tp, rfl, ht, _⟩ := h.at_ e
    rw [ex]
    have sx := so x (List.mem_of_getElem? ex)
    obtain ⟨o, s⟩ := x
    cases o with
    | none => cases sx
    | some z =>
      show some (numAt H (.ref t)) = some z
      rw [numAt_of ht]
theorem nums_nd {AL : List (Option Int × PlaceL)} (nd : (AL.map (·.2)).Nodup) (inj : ∀ x ∈ AL, ∀ y ∈ AL, x.1.getD 0 = y.1.getD 0 → x.2 = y.2) : (AL.map fun x => x.1.getD 0).Nodup := by
  refine List.pairwise_map.mpr ?_
  refine List.Pairwise.imp_of_mem ?_ (List.pairwise_map.mp nd)
  intro x y hx hy ne e
  exact ne (inj x hx y hy e)
theorem cut_rest (y : V) (ys : List V) : cutV (y :: ys) (some 1) none = ys := by
  unfold cutV
  have e : HT.sIx (y :: ys).length 0 (some 1) = 1 := by
    have := HT.sIx_nat (y :: ys).length 0 1
    rw [show ((1 : Nat) : Int) = 1 from rfl] at this
    rw [this, List.length_cons]
    omega
  rw [e, HT.sIx_none]
  show ys.take ((y :: ys).length - 1) = ys
  rw [List.length_cons]
  exact List.take_of_length_le (by omega)
end K05
set_option Elab.async false
set_option linter.all false
set_option maxRecDepth 100000
set_option maxHeartbeats 8000000
set_option exponentiation.threshold 400
/-! The law's own hand: passes add up. -/
namespace K05
open PySem PySem.Spec PyProof.Rows L2 Bp
section
variable {P : Program} {w : World} {K : PySem.W.Frag} {mg : Str → Option Value} {base : Heap} {CW CB CP : Addr}
abbrev NsA : List Str := ["_law_feed_here", "_law_raw_here", "_law_work", "_law_number", "_law_side", "_law_bar", "_law_spot", "_law_inner", "_law_turn", "_law_last", "_law_found", "_law_mine", "_law_at", "_law_after", "_law_step", "_law_counts", "_law_place", "_law_k", "_law_one", "_law_beat"]
theorem scAdds : FnScope NsA ["_law_feed_here", "_law_raw_here", "_law_work", "_law_number", "_law_side"] (defScope s_law_adds_up) := ⟨rfl, rfl, rfl, by decide +kernel, rfl, by decide +kernel, by decide +kernel⟩
def sp_adds (K : PySem.W.Frag) (CW CB CP : Addr) : Sp := fun vs H Q _ => ∃ (g : Fed) (rd p : Addr) (k : WorkL) (i : Nat) (r : PressL) (up : Bool) (n : Nat), vs = [.ref g.f, .ref rd, .ref p, .int i, .str (sideT up)] ∧ Scene K CW CB CP g p rd k n H ∧ k.Ok ∧ k.presses[i]? = some r ∧ n ≤ 2 ^ 28 ∧
  ∀ H', Kept g.f H H' → FeedAt K H' g (n + 30) → Q (.bl true) H'
structure Hands (P : Program) (w : World) (K : PySem.W.Frag) (mg : Str → Option Value) (base : Heap) (CW CB CP : Addr) (k : Nat) : Prop where
  draw : Def P w K mg base CX0 k "_law_draw" s_law_draw ["_law_feed_here", "_law_many"] (spDraw K)
  pick : Def P w K mg base CX0 k "_law_pick" s_law_pick ["_law_feed_here", "_law_some"] (spPick K)
  far : Def P w K mg base CX0 k "_law_far" s_law_far ["_law_feed_here"] (sp_far K)
  beats : Def P w K mg base CX0 k "_law_beats_with" s_law_beats_with ["_law_bar", "_law_last"] sp_beats
  where_ : Def P w K mg base CX0 k "where" s_where ["work", "place", "beats"] (sp_where CW CB CP)
  how : ∃ f fd, Fun K "how_many_passes" "how_many_passes" s_how_many_passes f fd ∧ mg "how_many_passes" = some (.ref f) ∧ FnOk P w K mg base CX0 k f fd ["work", "press", "side", "place", "upto"] (sp_how_many CW CB CP)
  next : ∃ f fd, FD K "next_pass" "next_pass" s_next_pass [] [("behind", .int 0)] f fd ∧ mg "next_pass" = some (.ref f) ∧ FnOk P w K mg base CX0 k f fd ["work", "press", "side", "place", "behind"] (sp_next CW CB CP)
/-- what the loops keep -/
structure Adds (K : PySem.W.Frag) (CW CB CP : Addr) (g : Fed) (p rd : Addr) (k : WorkL) (r : PressL) (up : Bool) (D ts : Addr) (il : List V) (H0 : Hp) (n : Nat) (H : Hp) : Prop where
  sc : Scene K CW CB CP g p rd k n H
  hD : H D = some (.lst il)
  pl : Places H il (k.places.filter fun s => decide (s.name = (r.stop up).name))
  st : IsPlace H ts (r.stop up)
  kp : Kept g.f H0 H
theorem Adds.same {g : Fed} {p rd D ts : Addr} {k : WorkL} {r : PressL} {up : Bool} {il : List V} {H0 H H' : Hp} {n : Nat} (h : Adds K CW CB CP g p rd k r up D ts il H0 n H) (s : Same H H') : Adds K CW CB CP g p rd k r up D ts il H0 n H' :=
  ⟨h.sc.same s, s _ _ h.hD, h.pl.imp (RPlace.kt (Kt.of s)), s _ _ h.st, h.kp.trans (Kept.of s)⟩
theorem Adds.draw {g : Fed} {p rd D ts : Addr} {k : WorkL} {r : PressL} {up : Bool} {il : List V} {H0 H H' : Hp} {n m : Nat} (h : Adds K CW CB CP g p rd k r up D ts il H0 n H) (kp : Kept g.f H H') (fe : FeedAt K H' g m) : Adds K CW CB CP g p rd k r up D ts il H0 m H' := by
  have kd := Kd.kept h.sc.fe kp
  exact ⟨h.sc.draw kp fe, kd _ _ (by intro xs z; cases z) h.hD, h.pl.imp (RPlace.kt kd.kt), kd _ _ (by intro xs z; cases z) h.st, h.kp.trans kp⟩
theorem Adds.le {g : Fed} {p rd D ts : Addr} {k : WorkL} {r : PressL} {up : Bool} {il : List V} {H0 H : Hp} {n m : Nat} (h : Adds K CW CB CP g p rd k r up D ts il H0 n H) (l : n ≤ m) : Adds K CW CB CP g p rd k r up D ts il H0 m H := ⟨h.sc.le l, h.hD, h.pl, h.st, h.kp⟩
theorem one_yes {p : PlaceL → Bool} {s : PlaceL} (h : p s = true) : [s].filter p = [s] := by simp [h]
theorem one_no {p : PlaceL → Bool} {s : PlaceL} (h : p s = false) : [s].filter p = [] := by simp [h]
theorem cast_sum {α : Type} (l : List α) (f : α → Nat) : (l.map fun x => ((f x : Nat) : Int)).sum = (((l.map f).sum : Nat) : Int) := by
  induction l with
  | nil => rfl
  | cons x l ih =>
    rw [List.map_cons, List.map_cons, List.sum_cons, List.sum_cons, ih, Int.natCast_add]
theorem side_ix (up : Bool) : ∃ j : Nat, ([.str "above", .str "below"] : List V)[j]? = some (.str (sideT up)) ∧ (∀ (i : Nat) (z : V), i < j → ([.str "above", .str "below"] : List V)[i]? = some z → eqV z (.str (sideT up)) = false) ∧
    ∀ a b c d : V, atI [a, b, c, d] (j : Int) = some (if up = true then a else b) := by
  cases up with
  | true => exact ⟨0, rfl, fun i z h => absurd h (Nat.not_lt_zero _), fun _ _ _ _ => atI_nat (j := 0) rfl⟩
  | false =>
    refine ⟨1, rfl, fun i z h e => ?_, fun _ _ _ _ => atI_nat (j := 1) rfl⟩
    have : i = 0 := by omega
    subst this
    cases e
    show (("above" : Str) == "below") = false
    decide +kernel
theorem eqV_side (up : Bool) : eqV (.str (sideT up)) (.str (sideT up)) = true := beq_self_eq_true _
theorem ok_adds {f : Addr} {fd : FuncData} {k : Nat} (B : Blt mg) (mm : mg "min" = none) (msr : mg "sorted" = none) (h : Hands P w K mg base CW CB CP k) (F : Fun K "_law_adds_up" "_law_adds_up" s_law_adds_up f fd) :
    FnOk P w K mg base CX0 (k + 1) f fd ["_law_feed_here", "_law_raw_here", "_law_work", "_law_number", "_law_side"] (sp_adds K CW CB CP) := by
  obtain ⟨fD, fdD, FD_, bD, gD, GD⟩ := h.draw.ex
  obtain ⟨fP, fdP, FP, bP, gP, GP⟩ := h.pick.ex
  obtain ⟨fR, fdR, FR, bR, gR, GR⟩ := h.far.ex
  obtain ⟨fB, fdB, FB, bB, gB, GB⟩ := h.beats.ex
  obtain ⟨fW, fdW, FW, bW, gW, GW⟩ := h.where_.ex
  obtain ⟨fH, fdH, FH, gH, GH⟩ := h.how
  obtain ⟨fN, fdN, FN, gN, GN⟩ := h.next
  have kH := kb_how FH
  obtain ⟨mvN, kN⟩ := kb_next FN
  refine F.ok scAdds (fun vs H Q E h => ?_) (fun cdv A outer sh H vs Q E hr h => ?_)
  · obtain ⟨g, rd, p, k, i, r, up, n, rfl, _⟩ := h
    rfl
  · obtain ⟨g, rd, p, k, i, r, up, n, rfl, sc, ok, er, hn, q⟩ := h
    have hu := hu_of hr
    have hu64 : A.units + 3 + 64 < cLine := hr.units
    refine ⟨_, pss_cons (ps_asg (pe_tup (pa_cons (pe_ix ix_tup (pe_ix ix_list (pe_dget hu (pv 1) pe_str (fun _ _ => rfl)) (pv 3) (fun _ _ => rfl)) pe_int (fun _ _ => rfl))
          (pa_cons (pe_ix ix_tup (pe_ix ix_list (pe_dget hu (pv 1) pe_str (fun _ _ => rfl)) (pv 3) (fun _ _ => rfl)) (pe_bm PySem.F.plainAttrs_list PySem.F.slot_list_index PySem.F.type_list_index mt_index (pe_lst (pa_cons pe_str (pa_cons pe_str pa_nil))) (pa_cons (pv 4) pa_nil)) (fun _ _ => rfl)) pa_nil)))
          (pg_tup rfl (pgs_cons (pg_name (i := 5) scAdds.nd rfl (.inl rfl)) (pgs_cons (pg_name (i := 6) scAdds.nd rfl (.inr rfl)) pgs_nil))))
      (pss_cons (ps_setLc (i := 7) (own := [("_law_place", 16)]) (g := gName 16) rfl scAdds.nd rfl rfl (by rfl) (pi_list (pe_dget hu (pv 1) pe_str (fun _ _ => rfl))) (blkOk_by (own := [("_law_place", 16)]) (N := NsA) (sc := defScope s_law_adds_up) (by decide +kernel))
          (fun _ _ _ _ _ => pg_name (i := 16) scAdds.nd rfl (Or.inl rfl)) (fun _ _ _ _ _ => pts_one (pt_cmpR op_eq (pe_ix (show IxR _ (rIxT K) from ix_tup) (pv 16) pe_int (fun _ _ => rfl)) (pe_ix (show IxR _ (rIxT K) from ix_tup) (pv 6) pe_int (fun _ _ => rfl)) (nomark _))) (fun _ _ _ _ _ => pv 16))
      (pss_cons (ps_for PassesOwn.never rfl (pi_range1 (by rfl) B.rng (pa_cons pe_int pa_nil)) (pg_name (i := 8) scAdds.nd rfl (Or.inl rfl))
        (pss_cons (ps_set (i := 9) scAdds.nd rfl (.inr rfl) (pe_call GR hr rfl gR FR.kp bR .nil pass0 (pa_cons (pv 0) pa_nil)))
        (pss_cons (ps_set (i := 10) scAdds.nd rfl (.inr rfl) (pe_lc (own := [("_law_place", 16)]) (g := gName 16) (tt := tYes) rfl scAdds.nd (pi_list (pe_dget hu (pv 1) pe_str (fun _ _ => rfl))) (blkOk_by (own := [("_law_place", 16)]) (N := NsA) (sc := defScope s_law_adds_up) (by decide +kernel))
          (fun _ _ _ _ _ => pg_name (i := 16) scAdds.nd rfl (Or.inl rfl)) (fun _ _ _ _ _ => pts_nil) (fun _ _ _ _ _ => pe_callN GH hr rfl gH FH.kp kH pass0 (pa_cons (pv 2) (pa_cons (pv 3) (pa_cons (pv 4) (pa_cons (pv 16) pa_nil)))) (pk_cons (pv 9) pk_nil))))
        (pss_cons (ps_setLc (i := 11) (own := [("_law_k", 17)]) (g := gName 17) rfl scAdds.nd rfl rfl (by rfl) (pi_range1 (by rfl) B.rng (pa_cons (pe_callB call_len (by rfl) B.len PySem.boot_len (pa_cons (pv 10) pa_nil)) pa_nil)) (blkOk_by (own := [("_law_k", 17)]) (N := NsA) (sc := defScope s_law_adds_up) (by decide +kernel))
          (fun _ _ _ _ _ => pg_name (i := 17) scAdds.nd rfl (Or.inl rfl)) (fun _ _ _ _ _ => pts_one (pt_cmpR op_eq (pe_ix (show IxR _ (rIxT K) from ix_tup) (pe_ix (show IxR _ (rIxL K) from ix_list) (pe_dget hu (pv 1) pe_str (fun _ _ => rfl)) (pv 17) (fun _ _ => rfl)) pe_int (fun _ _ => rfl)) (pe_ix (show IxR _ (rIxT K) from ix_tup) (pv 6) pe_int (fun _ _ => rfl)) (nomark _)))
          (fun _ _ _ _ _ => pe_ix (show IxR _ (rIxL K) from ix_list) (pv 10) (pv 17) (fun _ _ => rfl)))
        (pss_one (ps_if (PW.pt (pw_or (pt_cmpR op_ne (pe_callB (cr_sum rfl) (by rfl) B.sum (by decide +kernel) (pa_cons (pv 11) pa_nil)) (pe_call GB hr rfl gB FB.kp bB .nil pass0 (pa_cons (pv 5) (pa_cons (pv 9) pa_nil))) (nomark _))
          (pw_or1 (pt_cmpR op_ne (pe_callB (cr_sum rfl) (by rfl) B.sum (by decide +kernel) (pa_cons (pv 10) pa_nil)) (pe_callB (cr_sum rfl) (by rfl) B.sum (by decide +kernel) (pa_cons (pv 11) pa_nil)) (nomark _))))) (pss_one (ps_ret pe_bl)) pss_nil))))))
      (pss_cons (ps_set (i := 12) scAdds.nd rfl (.inr rfl) (pe_callB (call_min2 rfl) (by rfl) mm (by decide +kernel) (pa_cons (pe_op op_sub (pe_op op_pow pe_int pe_int) pe_int) (pa_cons (pe_call GP hr rfl gP FP.kp bP .nil pass0 (pa_cons (pv 0) (pa_cons (pe_lst (pa_cons pe_int
          (pa_cons (pe_call GD hr rfl gD FD_.kp bD .nil pass0 (pa_cons (pv 0) (pa_cons pe_int pa_nil))) (pa_cons (pe_call GR hr rfl gR FR.kp bR .nil pass0 (pa_cons (pv 0) pa_nil)) pa_nil)))) pa_nil))) pa_nil))))
      (pss_cons (ps_for PassesOwn.never rfl (pi_range1 (by rfl) B.rng (pa_cons pe_int pa_nil)) (pg_name (i := 8) scAdds.nd rfl (Or.inl rfl))
        (pss_cons (ps_set (i := 13) scAdds.nd rfl (.inr rfl) (pe_lc (own := [("_law_place", 16)]) (g := gName 16) (tt := tYes) rfl scAdds.nd (pi_list (pv 7)) (blkOk_by (own := [("_law_place", 16)]) (N := NsA) (sc := defScope s_law_adds_up) (by decide +kernel))
          (fun _ _ _ _ _ => pg_name (i := 16) scAdds.nd rfl (Or.inl rfl)) (fun _ _ _ _ _ => pts_nil) (fun _ _ _ _ _ => pe_tup (pa_cons (pe_callN GN hr rfl gN FN.kp kN pass0 (pa_cons (pv 2) (pa_cons (pv 3) (pa_cons (pv 4) (pa_cons (pv 16) pa_nil)))) (pk_cons (pv 12) pk_nil)) (pa_cons (pv 16) pa_nil)))))
        (pss_cons (ps_set (i := 13) scAdds.nd rfl (.inr rfl) (pe_callB cr_sortedN (by rfl) msr (by decide +kernel) (pa_cons (pe_lc (own := [("_law_one", 18)]) (g := gName 18) rfl scAdds.nd (pi_list (pv 13)) (blkOk_by (own := [("_law_one", 18)]) (N := NsA) (sc := defScope s_law_adds_up) (by decide +kernel))
          (fun _ _ _ _ _ => pg_name (i := 18) scAdds.nd rfl (Or.inl rfl)) (fun _ _ _ _ _ => pts_one (pt_cmpR op_notN (pe_ix (show IxR _ (rIxT K) from ix_tup) (pv 18) pe_int (fun _ _ => rfl)) pe_non (by rfl))) (fun _ _ _ _ _ => pv 18)) pa_nil)))
        (pss_cons (ps_set (i := 14) scAdds.nd rfl (.inr rfl) (pe_op op_add (pv 12) pe_int))
        (pss_cons (ps_while PassesOwn.never (PW.pt (pw_and (pt_cmpR op_in_sign pe_str (pv 5) (by rfl)) (pw_and1 (pt_cmpR op_ne (pe_ix ix_str (pv 5) (pe_op op_mod (pe_op op_sub (pv 14) pe_int) (pe_callB call_len (by rfl) B.len PySem.boot_len (pa_cons (pv 5) pa_nil))) (fun _ _ => rfl)) pe_str (nomark _)))))
          (pss_one (ps_set (i := 14) scAdds.nd rfl (.inr rfl) (pe_op op_add (pv 14) pe_int))))
        (pss_cons (ps_if (pt_cmpR op_notIn_sign pe_str (pv 5) (by rfl)) (pss_one (ps_ret (pe_cmpR (op_eqD hu64) (pv 13) (pe_lst pa_nil) (nomark _)))) pss_nil)
        (pss_cons (ps_if (PW.pt (pw_or (pt_cmpR (op_eqD hu64) (pv 13) (pe_lst pa_nil) (nomark _)) (pw_or (pt_cmpR op_ne (pe_ix ix_tup (pe_ix ix_list (pv 13) pe_int (fun _ _ => rfl)) pe_int (fun _ _ => rfl)) (pv 14) (nomark _))
          (pw_or1 (pt_cmpR (op_neD hu64) (pe_lc (own := [("_law_one", 18)]) (g := gName 18) rfl scAdds.nd (pi_list (pe_slice sl_list (pv 13) (po_some pe_int) po_none)) (blkOk_by (own := [("_law_one", 18)]) (N := NsA) (sc := defScope s_law_adds_up) (by decide +kernel))
            (fun _ _ _ _ _ => pg_name (i := 18) scAdds.nd rfl (Or.inl rfl)) (fun _ _ _ _ _ => pts_one (pt_cmpR op_eq (pe_ix (show IxR _ (rIxT K) from ix_tup) (pv 18) pe_int (fun _ _ => rfl)) (pv 14) (nomark _))) (fun _ _ _ _ _ => pv 18)) (pe_lst pa_nil) (nomark _)))))) (pss_one (ps_ret pe_bl)) pss_nil)
        (pss_cons (ps_if (PW.pt (pw_or (pt_cmpR (op_neD hu64) (pe_call GW hr rfl gW FW.kp bW .nil pass0 (pa_cons (pv 2) (pa_cons (pe_ix ix_tup (pe_ix ix_list (pv 13) pe_int (fun _ _ => rfl)) pe_int (fun _ _ => rfl)) (pa_cons (pv 14) pa_nil)))) (pv 6) (nomark _))
          (pw_or1 (pt_cmpR (op_neD hu64) (pe_call GW hr rfl gW FW.kp bW .nil pass0 (pa_cons (pv 2) (pa_cons (pv 6) (pa_cons (pe_op op_sub pe_int (pv 14)) pa_nil)))) (pe_ix ix_tup (pe_ix ix_list (pv 13) pe_int (fun _ _ => rfl)) pe_int (fun _ _ => rfl)) (nomark _))))) (pss_one (ps_ret pe_bl)) pss_nil)
        (pss_cons (ps_setLc (i := 15) (own := [("_law_beat", 19)]) (g := gName 19) (tt := tYes) rfl scAdds.nd rfl rfl (by rfl) (pi_tup (pe_tup (pa_cons (pv 12) (pa_cons (pe_op op_sub (pv 14) pe_int) (pa_cons (pv 14) pa_nil))))) (blkOk_by (own := [("_law_beat", 19)]) (N := NsA) (sc := defScope s_law_adds_up) (by decide +kernel))
          (fun _ _ _ _ _ => pg_name (i := 19) scAdds.nd rfl (Or.inl rfl)) (fun _ _ _ _ _ => pts_nil) (fun _ _ _ _ _ => pe_callN GH hr rfl gH FH.kp kH pass0 (pa_cons (pv 2) (pa_cons (pv 3) (pa_cons (pv 4) (pa_cons (pe_ix (show IxR _ (rIxT K) from ix_tup) (pe_ix (show IxR _ (rIxL K) from ix_list) (pv 13) pe_int (fun _ _ => rfl)) pe_int (fun _ _ => rfl)) pa_nil)))) (pk_cons (pv 19) pk_nil)))
        (pss_cons (ps_if (pt_cmpR (op_neD hu64) (pv 15) (pe_lst (pa_cons (pe_ix ix_list (pv 15) pe_int (fun _ _ => rfl)) (pa_cons (pe_ix ix_list (pv 15) pe_int (fun _ _ => rfl)) (pa_cons (pe_op op_add (pe_ix ix_list (pv 15) pe_int (fun _ _ => rfl)) pe_int) pa_nil)))) (nomark _)) (pss_one (ps_ret pe_bl)) pss_nil)
        (pss_one (ps_set (i := 12) scAdds.nd rfl (.inr rfl) (pv 14)))))))))))))
      (pss_one (ps_ret pe_bl)))))), ?_⟩
    obtain ⟨lb, lp, lq, l, m, qs, hrd, hlb, eb, hlp, ep, hlq, el⟩ := id sc.ir
    have hraw : H rd = some (.dK (rawKvs k.signs lb lp lq)) := hrd
    obtain ⟨vt, evt, t, a, b, tb, rfl, ht, pat⟩ := ep.of er
    have rh := (ok.fit r (List.mem_of_getElem? er)).ok.rh
    have rlen : 0 < r.rhythm.length := rh.lo
    have rhi := rh.hi
    have fitr : (tx r.rhythm).length ≤ sizeLine := fit_tx (by omega)
    have fw := ok.fit r (List.mem_of_getElem? er)
    have stm : r.stop up ∈ k.places := by
      cases up with
      | true => exact fw.ab
      | false => exact fw.be
    have nd := ok.bs.nd
    have lowP : ∀ s ∈ k.places, Low s.name := fun s hs => (places_low ok.bs.each s hs).low
    obtain ⟨j0, hj0, hj1, hj2⟩ := side_ix up
    obtain ⟨ts, ets, its⟩ : ∃ ts, (if up = true then V.ref a else V.ref b) = V.ref ts ∧ IsPlace H ts (r.stop up) := by
      cases up with
      | true => exact ⟨a, rfl, pat.ab⟩
      | false => exact ⟨b, rfl, pat.be⟩
    refine ⟨.ref rd, rfl, rd, _, rfl, get_presses hraw, .int i, rfl, lp, m, i, _, rfl, rfl, SqL.of hlp, atI_nat evt, t, _, 3, _, rfl, rfl, SqT.of ht, atI_nat (j := 3) rfl, ?_⟩
    refine ⟨.ref rd, rfl, rd, _, rfl, get_presses hraw, .int i, rfl, lp, m, i, _, rfl, rfl, SqL.of hlp, atI_nat evt, (by show 2 ≤ sizeLine; decide), fun l0 nl0 => ?_⟩
    have s0 := same_new (o := .lst [.str "above", .str "below"]) nl0
    refine ⟨.inl ⟨rfl, _, SqL.of upd_same⟩, .str (sideT up), rfl, l0, [.str "above", .str "below"], _, _, _, rfl, rfl, SqL.of upd_same, rfl, rfl, hj0, eqV_side up, hj1, ?_⟩
    refine ⟨t, _, _, _, rfl, rfl, SqT.of (s0 _ _ ht), hj2 _ _ _ _, ?_⟩
    rw [ets]
    refine ⟨(by show 2 ≤ sizeLine; decide), fun T nT => ?_⟩
    have s1 := s0.trans (same_new (o := .tup [.str (tx r.rhythm), .ref ts]) nT)
    refine ⟨T, _, rfl, SqT.of upd_same, rfl, _, _, rfl, _, _, rfl, rfl, ?_⟩
    generalize hH2 : upd (upd H l0 (.lst [.str "above", .str "below"])) T (.tup [.str (tx r.rhythm), .ref ts]) = H2 at *
    have plen : k.places.length ≤ 40 := by
      show (placesL k.bands).length ≤ 40
      rw [placesL_len]
      exact ok.bs.all
    have el2 := el.imp (RPlace.kt (Kt.of s1))
    refine ⟨.ref rd, rfl, rd, _, rfl, get_places (s1 _ _ hraw), lq, rfl, ⟨_, SqL.of (s1 _ _ hlq)⟩, fun D nD => ?_⟩
    refine lc_v (walk_list (K := K) (a := lq) (xs := qs)) (fun H3 sm => SqL.of (sm _ _ (s1 _ _ hlq))) (fun j H3 l' => Places H3 l' ((k.places.take j).filter fun s => decide (s.name = (r.stop up).name))) (fun _ => Each.nil) (fun j H3 l' hj h => ?_) (fun j H3 H4 l' kn h => h.imp (RPlace.kn kn)) nD ?_ ?_
    · rw [h.1]
      have := List.length_filter_le (fun s : PlaceL => decide (s.name = (r.stop up).name)) (k.places.take j)
      rw [List.length_take] at this
      omega
    · rintro j x H3 H4 l' Qy Qn hj sm hl' ⟨rfl, hx⟩ qy qn
      obtain ⟨s, es, tp, rfl, htp⟩ := (el2.imp (RPlace.kt (Kt.of sm))).at_ hx
      have hts3 := sm _ _ (s1 _ _ its)
      have step : (k.places.take (j + 1)).filter (fun s => decide (s.name = (r.stop up).name)) = (k.places.take j).filter (fun s => decide (s.name = (r.stop up).name)) ++ [s].filter (fun s => decide (s.name = (r.stop up).name)) := by
        rw [List.take_add_one, es, List.filter_append]
        rfl
      refine ⟨rfl, .ref tp, rfl, tp, _, 0, _, rfl, rfl, SqT.of htp, atI_nat (j := 0) rfl, .ref ts, rfl, ts, _, 0, _, rfl, rfl, SqT.of hts3, atI_nat (j := 0) rfl, rfl, _, rfl, ?_⟩
      by_cases c : s.name = (r.stop up).name
      · refine yesOf (decide_eq_true (by rw [c])) ?_
        rw [one_yes (p := fun s : PlaceL => decide (s.name = (r.stop up).name)) (decide_eq_true c)] at step
        exact ⟨.ref tp, rfl, qy _ _ (Same.refl _) (step ▸ hl'.snoc ⟨tp, rfl, htp⟩)⟩
      · refine noOf (decide_eq_false fun z => c (tx_inj (V.str.inj z))) ?_
        rw [one_no (p := fun s : PlaceL => decide (s.name = (r.stop up).name)) (decide_eq_false c), List.append_nil] at step
        exact qn _ (Same.refl _) (step ▸ hl')
    · intro H3 il s3 hil hD
      have tk : k.places.take qs.length = k.places := List.take_of_length_le (Nat.le_of_eq el.1.symm)
      rw [tk] at hil
      have A3 : Adds K CW CB CP g p rd k r up D ts il H n H3 := ⟨(sc.same s1).same s3, hD, hil, s3 _ _ (s1 _ _ its), Kept.of (s1.trans s3)⟩
      refine ⟨3, rfl, by decide, by decide, ?_⟩
      have e3 : (3 : Int).toNat = 3 := rfl
      rw [e3]
      refine for_it (walk_range (lo := 0) (n := 3)) (fun i' σ H4 => ∃ v8 v9 v10 v11 : Option V, σ = [some (.ref g.f), some (.ref rd), some (.ref p), some (.int i), some (.str (sideT up)), some (.str (tx r.rhythm)), some (.ref ts), some (.ref D), v8, v9, v10, v11, none, none, none, none, none, none, none, none] ∧ Adds K CW CB CP g p rd k r up D ts il H (n + 5 * i') H4) ⟨none, none, none, none, rfl, A3⟩ (fun _ _ _ _ _ => trivial) ?_ ?_
      · rintro i' x σ H4 H4' hi' ⟨v8, v9, v10, v11, rfl, A4⟩ ⟨rfl, rfl⟩
        refine ⟨.ref g.f, rfl, g, n + 5 * i', rfl, A4.sc.fe, by omega, fun last H5 la0 la1 fe5 kp5 => ?_⟩
        obtain ⟨u, rfl⟩ := Int.eq_ofNat_of_zero_le la0
        have A5 := A4.draw kp5 fe5
        obtain ⟨lb5, lp5, lq5, l5, m5, q5, hrd5, hlb5, eb5, hlp5, ep5, hlq5, el5⟩ := id A5.sc.ir
        have hraw5 : H5 rd = some (.dK (rawKvs k.signs lb5 lp5 lq5)) := hrd5
        have ql : q5.length = k.places.length := el5.1
        have count : ∀ {H6 : Hp} {tp : Addr} {s : PlaceL}, Same H5 H6 → IsPlace H6 tp s → s ∈ k.places → Asked CW CB CP H6 p tp k i r s (bandOf k.bands s) := fun {H6 tp s} sm ip hs =>
          ⟨A5.sc.iw.same sm, ok, er, ip, hs, (bandOf_mem hs).1, (bandOf_mem hs).2⟩
        refine ⟨.ref rd, rfl, rd, _, rfl, get_places hraw5, lq5, rfl, ⟨_, SqL.of hlq5⟩, fun D2 nD2 => ?_⟩
        refine lc_v (walk_list (K := K) (a := lq5) (xs := q5)) (fun H6 sm => SqL.of (sm _ _ hlq5)) (fun j H6 l' => l' = (k.places.take j).map fun s => V.int ((upTo k.bands r up u s : Nat) : Int)) (fun _ => rfl) (fun j H6 l' hj h => ?_) (fun j H6 H7 l' kn h => h) nD2 ?_ ?_
        · rw [h, List.length_map, List.length_take]
          omega
        · rintro j x H6 H7 l' Qy Qn hj sm hl' ⟨rfl, hx⟩ qy _
          obtain ⟨s, es, tp, rfl, htp⟩ := (el5.imp (RPlace.kt (Kt.of sm))).at_ hx
          have hs := List.mem_of_getElem? es
          have ask := count sm htp hs
          refine ⟨rfl, yes_kept ?_⟩
          refine ⟨.ref p, rfl, .int i, rfl, .str (sideT up), rfl, .ref tp, rfl, .int (u : Int), rfl, rfl, rfl, p, tp, k, i, r, up, s, bandOf k.bands s, (u : Int), rfl, ask, fun H8 s8 => qy _ H8 s8 ?_⟩
          rw [countL_cnt ask.common.1, hl', List.take_add_one, es, List.map_append]
          rfl
        · intro H6 fl s6 hfl hD2
          rw [ql, List.take_length] at hfl
          have fll : fl.length = k.places.length := by rw [hfl, List.length_map]
          have fl40 : fl.length ≤ 40 := by omega
          refine ⟨.ref D2, rfl, .ref D2, fl.length, rfl, .inl ⟨_, SqL.of hD2, rfl⟩, (fl.length : Int), rfl, by omega, by omega, fun D3 nD3 => ?_⟩
          rw [Int.toNat_natCast]
          have A6 := A5.same s6
          have el6 := el5.imp (RPlace.kt (Kt.of s6))
          have hraw6 := s6 _ _ hraw5
          have hlq6 := s6 _ _ hlq5
          refine lc_v (walk_range (lo := 0) (n := fl.length)) (fun _ _ => trivial) (fun j H7 l' => l' = (((k.places.take j).filter fun s => decide (s.name = (r.stop up).name)).map fun s => V.int ((upTo k.bands r up u s : Nat) : Int))) (fun _ => rfl) (fun j H7 l' hj h => ?_) (fun j H7 H8 l' kn h => h) nD3 ?_ ?_
          · rw [h, List.length_map]
            have := List.length_filter_le (fun s : PlaceL => decide (s.name = (r.stop up).name)) (k.places.take j)
            rw [List.length_take] at this
            omega
          · rintro j x H7 H8 l' Qy Qn hj sm hl' ⟨rfl, rfl⟩ qy qn
            have jq : j < q5.length := by omega
            obtain ⟨s, es, tp, etp, htp⟩ := (el6.imp (RPlace.kt (Kt.of sm))).at_ (List.getElem?_eq_getElem jq)
            have eq5 : q5[j]? = some (.ref tp) := by rw [List.getElem?_eq_getElem jq, etp]
            have efl : fl[j]? = some (V.int ((upTo k.bands r up u s : Nat) : Int)) := by rw [hfl, List.getElem?_map, es]; rfl
            have atz : ∀ {xs : List V} {v : V}, xs[j]? = some v → atI xs (0 + (j : Int)) = some v := fun {xs v} h => by
              rw [Int.zero_add]
              exact atI_nat h
            have step : (k.places.take (j + 1)).filter (fun s => decide (s.name = (r.stop up).name)) = (k.places.take j).filter (fun s => decide (s.name = (r.stop up).name)) ++ [s].filter (fun s => decide (s.name = (r.stop up).name)) := by
              rw [List.take_add_one, es, List.filter_append]
              rfl
            refine ⟨rfl, .ref rd, rfl, rd, _, rfl, get_places (sm _ _ hraw6), .int (0 + (j : Int)), rfl, lq5, _, _, _, rfl, rfl, SqL.of (sm _ _ hlq6), atz eq5, tp, _, 0, _, rfl, rfl, SqT.of htp, atI_nat (j := 0) rfl, .ref ts, rfl, ts, _, 0, _, rfl, rfl, SqT.of (sm _ _ A6.st), atI_nat (j := 0) rfl, rfl, _, rfl, ?_⟩
            by_cases c : s.name = (r.stop up).name
            · refine yesOf (decide_eq_true (by rw [c])) ?_
              rw [one_yes (p := fun s : PlaceL => decide (s.name = (r.stop up).name)) (decide_eq_true c)] at step
              refine ⟨.ref D2, rfl, .int (0 + (j : Int)), rfl, D2, _, _, _, rfl, rfl, SqL.of (sm _ _ hD2), atz efl, qy _ _ (Same.refl _) ?_⟩
              rw [step, hl', List.map_append]
              rfl
            · refine noOf (decide_eq_false fun z => c (tx_inj (V.str.inj z))) ?_
              rw [one_no (p := fun s : PlaceL => decide (s.name = (r.stop up).name)) (decide_eq_false c), List.append_nil] at step
              exact qn _ (Same.refl _) (by rw [step, hl'])
          · intro H7 ml s7 hml hD3
            rw [fll, List.take_length] at hml
            obtain ⟨sum1, sum2⟩ := sums nd stm u
            have sumM : (((k.places.filter fun s => decide (s.name = (r.stop up).name)).map fun s => ((upTo k.bands r up u s : Nat) : Int))).sum = ((cnt (xAt r.rhythm) u : Nat) : Int) := by
              rw [cast_sum]
              exact congrArg Int.ofNat sum1
            have sumF : ((k.places.map fun s => ((upTo k.bands r up u s : Nat) : Int))).sum = ((cnt (xAt r.rhythm) u : Nat) : Int) := by
              rw [cast_sum]
              exact congrArg Int.ofNat sum2
            have hml2 : H7 D3 = some (.lst (((k.places.filter fun s => decide (s.name = (r.stop up).name)).map fun s => ((upTo k.bands r up u s : Nat) : Int)).map V.int)) := by rw [hD3, hml, List.map_map]; rfl
            have hfl2 : H7 D2 = some (.lst ((k.places.map fun s => ((upTo k.bands r up u s : Nat) : Int)).map V.int)) := by rw [s7 _ _ hD2, hfl, List.map_map]; rfl
            have A7 := A6.same s7
            refine ⟨.ref D3, rfl, D3, _, rfl, SqL.of hml2, .str (tx r.rhythm), rfl, .int (u : Int), rfl, r.rhythm, (u : Int), rfl, rh, fun H8 s8 => ?_⟩
            rw [sumM, beatsL_cnt rlen]
            refine ⟨rfl, _, rfl, noOf (by rw [decide_eq_true rfl]; rfl) ?_⟩
            refine ⟨.ref D2, rfl, D2, _, rfl, SqL.of (s8 _ _ hfl2), .ref D3, rfl, D3, _, rfl, SqL.of (s8 _ _ hml2), ?_⟩
            rw [sumM, sumF]
            refine ⟨rfl, _, rfl, noOf (by rw [decide_eq_true rfl]; rfl) ?_⟩
            exact ⟨_, _, _, _, rfl, (A7.same s8).le (by omega)⟩
      · rintro σ H4 ⟨v8, v9, v10, v11, rfl, A4⟩
        have e60 : (10 : Int) ^ (60 : Int).toNat = 1000000000000000000000000000000000000000000000000000000000000 := by decide
        refine ⟨10, 60, rfl, rfl, ⟨by decide, by decide, by decide⟩, _, 100, rfl, rfl, ?_⟩
        refine ⟨.ref g.f, rfl, .ref g.f, rfl, g, 30, n + 5 * 3, rfl, A4.sc.fe, by omega, by decide, by decide, fun d1 H5 d10 d11 fe5 kp5 => ?_⟩
        refine ⟨.ref g.f, rfl, g, n + 5 * 3 + 1, rfl, fe5, by omega, fun d2 H6 d20 d21 fe6 kp6 => ?_⟩
        refine ⟨(by show 3 ≤ sizeLine; decide), fun l2 nl2 => ?_⟩
        refine ⟨g, .ref l2, n + 5 * 3 + 1 + 5, rfl, fe6.same (same_new nl2), by omega, .inr ⟨l2, _, rfl, SqL.of upd_same, (by show 0 < 3; decide), (by show 3 ≤ 1000; decide), fun x H7 hx fe7 kp7 => ?_⟩⟩
        obtain ⟨pk, rfl, pk0⟩ : ∃ pk : Int, x = .int pk ∧ 0 ≤ pk := by
          rcases List.mem_cons.mp hx with rfl | hx
          · exact ⟨0, rfl, by decide⟩
          rcases List.mem_cons.mp hx with rfl | hx
          · exact ⟨d1, rfl, d10⟩
          rcases List.mem_cons.mp hx with rfl | hx
          · exact ⟨d2, rfl, d20⟩
          cases hx
        clear hx
        have A7 := A4.draw ((kp5.trans kp6).trans ((Kept.of (same_new nl2)).trans kp7)) fe7
        refine ⟨_, _, rfl, ?_⟩
        obtain ⟨a0, ea0⟩ : ∃ a0 : Nat, (if pk < (10 : Int) ^ (60 : Int).toNat - 100 then pk else (10 : Int) ^ (60 : Int).toNat - 100) = (a0 : Int) := by
          rw [e60]
          split
          · exact ⟨pk.toNat, by omega⟩
          · exact ⟨1000000000000000000000000000000000000000000000000000000000000 - 100, by decide⟩
        have ea1 : ∀ {P : Int → Prop}, P (a0 : Int) → P (if pk < (10 : Int) ^ (60 : Int).toNat - 100 then pk else (10 : Int) ^ (60 : Int).toNat - 100) := fun {P} h => ea0 ▸ h
        refine ⟨4, rfl, by decide, by decide, ?_⟩
        have e4 : (4 : Int).toNat = 4 := rfl
        rw [e4]
        -- the band, and what passes next
        obtain ⟨bo1, bo2⟩ := bandOf_mem stm
        have inb := place_in_band nd stm bo1 bo2
        have inner : (k.places.filter fun s => decide (s.name = (r.stop up).name)) = rangeP (bandOf k.bands (r.stop up)) (bandOf k.bands (r.stop up)).long := by
          rw [← bo2]
          exact filter_name nd bo1
        generalize hB : bandOf k.bands (r.stop up) = bb at *
        have bok := ok.bs.each bb bo1
        have b12 := bok.hi
        have innerLen : (rangeP bb bb.long).length ≤ 12 := by rw [rangeP_len]; exact b12
        have inPl : ∀ s ∈ rangeP bb bb.long, s ∈ k.places := fun s hs => by
          rw [← inner] at hs
          exact (List.mem_filter.mp hs).1
        have cp : 0 < commonL bb r := Nat.lcm_pos (by have := bok.lo; omega) rlen
        refine for_it (walk_range (lo := 0) (n := 4)) (fun i' σ H8 => ∃ (a : Nat) (v8 v9 v10 v11 v13 v14 v15 : Option V), σ = [some (.ref g.f), some (.ref rd), some (.ref p), some (.int i), some (.str (sideT up)), some (.str (tx r.rhythm)), some (.ref ts), some (.ref D), v8, v9, v10, v11, some (.int (a : Int)), v13, v14, v15, none, none, none, none] ∧
            Adds K CW CB CP g p rd k r up D ts il H (n + 5 * 3 + 1 + 5 + 1) H8) ⟨a0, v8, v9, v10, v11, none, none, none, ?_, A7⟩ (fun _ _ _ _ _ => trivial) ?_ ?_
        · rw [← ea0]
          rfl
        · rintro i' x σ H8 H8' hi' ⟨a, v8, v9, v10, v11, v13, v14, v15, rfl, A8⟩ ⟨rfl, rfl⟩
          have pl8 := A8.pl
          rw [inner] at pl8
          have ill : il.length ≤ 12 := by rw [pl8.1]; exact innerLen
          let nx : PlaceL → Option Int := fun s => nextOf (restsL bb r up s (commonL bb r)) (commonL bb r : Nat) (a : Int)
          refine ⟨.ref D, rfl, D, rfl, ⟨_, SqL.of A8.hD⟩, fun D2 nD2 => ?_⟩
          refine lc_v (walk_list (K := K) (a := D) (xs := il)) (fun H9 sm => SqL.of (sm _ _ A8.hD)) (fun j H9 l' => Each RNx H9 l' (((rangeP bb bb.long).take j).map fun s => (nx s, s))) (fun _ => Each.nil) (fun j H9 l' hj h => ?_) (fun j H9 HA l' kn h => h.imp (RNx.kt (Kt.kn kn))) nD2 ?_ ?_
          · rw [h.1, List.length_map, List.length_take]
            omega
          · rintro j x H9 HA l' Qy Qn hj sm hl' ⟨rfl, hx⟩ qy _
            obtain ⟨s, es, tp, rfl, htp⟩ := (pl8.imp (RPlace.kt (Kt.of sm))).at_ hx
            have sIn := List.mem_of_getElem? es
            obtain ⟨sn, _⟩ := mem_rangeP.mp sIn
            have ask : Asked CW CB CP HA p tp k i r s bb := ⟨A8.sc.iw.same sm, ok, er, htp, inPl s sIn, bo1, sn.symm⟩
            refine ⟨rfl, yes_kept ?_⟩
            refine ⟨.ref p, rfl, .int i, rfl, .str (sideT up), rfl, .ref tp, rfl, .int (a : Int), rfl, rfl, rfl, p, tp, k, i, r, up, s, bb, (a : Int), rfl, ask, fun HB sB => ?_⟩
            refine ⟨.ref tp, rfl, (by show 2 ≤ sizeLine; decide), fun t nt => qy _ _ (sB.trans (same_new nt)) ?_⟩
            rw [List.take_add_one, es, List.map_append]
            refine (hl'.imp (RNx.kt (Kt.of (sB.trans (same_new nt))))).snoc ⟨t, tp, rfl, upd_same, ?_⟩
            exact same_new nt _ _ (sB _ _ htp)
          · intro H9 al s9 hal hD2
            have tk2 : (rangeP bb bb.long).take il.length = rangeP bb bb.long := List.take_of_length_le (Nat.le_of_eq pl8.1.symm)
            rw [tk2] at hal
            have A9 := A8.same s9
            -- those that pass, by their numbers
            have nxt : ∀ {s : PlaceL} {z : Int}, nx s = some z → Nxt (passB bb r up s) a z := fun {s z} e => by
              by_cases no : restsP (passB bb r up s) (commonL bb r) = []
              · have : nx s = none := next_nil no _
                rw [this] at e
                cases e
              · obtain ⟨z', e', hz'⟩ := nextP cp (passB_per bb r up s) a no
                have : nx s = some z' := e'
                rw [this] at e
                cases e
                exact hz'
            let AL : List (Option Int × PlaceL) := ((rangeP bb bb.long).map fun s => (nx s, s)).filter fun x => x.1.isSome
            have memAL : ∀ x ∈ AL, ∃ z, x.1 = some z ∧ nx x.2 = some z ∧ x.2 ∈ rangeP bb bb.long := fun x hx => by
              obtain ⟨h1, h2⟩ := List.mem_filter.mp hx
              obtain ⟨s, hs, rfl⟩ := List.mem_map.mp h1
              obtain ⟨z, hz⟩ := Option.isSome_iff_exists.mp h2
              exact ⟨z, hz, hz, hs⟩
            have ndAL : (AL.map (·.2)).Nodup := by
              have sub : (AL.map (·.2)).Sublist (((rangeP bb bb.long).map fun s => (nx s, s)).map (·.2)) := List.Sublist.map _ List.filter_sublist
              rw [List.map_map] at sub
              have e : (rangeP bb bb.long).map ((fun x : Option Int × PlaceL => x.2) ∘ fun s => (nx s, s)) = rangeP bb bb.long := List.map_id _
              rw [e] at sub
              exact sub.nodup (rangeP_nd bb _)
            have injAL : ∀ x ∈ AL, ∀ y ∈ AL, x.1.getD 0 = y.1.getD 0 → x.2 = y.2 := fun x hx y hy e => by
              obtain ⟨z, e1, e2, m1⟩ := memAL x hx
              obtain ⟨z', e1', e2', m1'⟩ := memAL y hy
              rw [e1, e1'] at e
              have : z = z' := e
              subst this
              exact unlike inb m1 m1' (nxt e2) (nxt e2')
            refine ⟨.ref D2, rfl, D2, rfl, ⟨_, SqL.of hD2⟩, fun D3 nD3 => ?_⟩
            have all : al.length = bb.long := by rw [hal.1, List.length_map, rangeP_len]
            refine lc_v (walk_list (K := K) (a := D2) (xs := al)) (fun HA sm => SqL.of (sm _ _ hD2)) (fun j HA l' => Each RNx HA l' ((((rangeP bb bb.long).map fun s => (nx s, s)).take j).filter fun x => x.1.isSome)) (fun _ => Each.nil) (fun j HA l' hj h => ?_) (fun j HA HB l' kn h => h.imp (RNx.kt (Kt.kn kn))) nD3 ?_ ?_
            · rw [h.1]
              have := List.length_filter_le (fun x : Option Int × PlaceL => x.1.isSome) (((rangeP bb bb.long).map fun s => (nx s, s)).take j)
              rw [List.length_take] at this
              omega
            · rintro j x HA HB l' Qy Qn hj sm hl' ⟨rfl, hx⟩ qy qn
              obtain ⟨⟨o, s⟩, es, t, tp, rfl, ht, htp⟩ := (hal.imp (RNx.kt (Kt.of sm))).at_ hx
              have step : (((rangeP bb bb.long).map fun s => (nx s, s)).take (j + 1)).filter (fun x => x.1.isSome) = (((rangeP bb bb.long).map fun s => (nx s, s)).take j).filter (fun x => x.1.isSome) ++ [(o, s)].filter (fun x => x.1.isSome) := by
                rw [List.take_add_one, es, List.filter_append]
                rfl
              refine ⟨rfl, .ref t, rfl, t, _, 0, _, rfl, rfl, SqT.of ht, atI_nat (j := 0) rfl, rfl, _, rfl, ?_⟩
              cases o with
              | none =>
                refine noOf rfl ?_
                exact qn _ (Same.refl _) (by rw [step]; simpa using hl')
              | some z =>
                refine yesOf rfl ?_
                refine ⟨.ref t, rfl, qy _ _ (Same.refl _) ?_⟩
                rw [step]
                exact hl'.snoc ⟨t, tp, rfl, ht, htp⟩
            · intro HA xs sA hxs hD3
              have tk3 : ((rangeP bb bb.long).map fun s => (nx s, s)).take al.length = (rangeP bb bb.long).map fun s => (nx s, s) := List.take_of_length_le (Nat.le_of_eq hal.1.symm)
              rw [tk3] at hxs
              have hxs : Each RNx HA xs AL := hxs
              have AA := A9.same sA
              have fx : ∀ x ∈ xs, ∃ t tp z s, x = .ref t ∧ HA t = some (.tup [.int z, .ref tp]) ∧ IsPlace HA tp s ∧ s ∈ rangeP bb bb.long ∧ nx s = some z ∧ (some z, s) ∈ AL := fun x hx => by
                obtain ⟨j, hj⟩ := List.mem_iff_getElem?.mp hx
                obtain ⟨⟨o, s⟩, es, t, tp, rfl, ht, htp⟩ := hxs.at_ hj
                obtain ⟨z, rfl, e2, m⟩ := memAL _ (List.mem_of_getElem? es)
                exact ⟨t, tp, z, s, rfl, ht, htp, m, e2, List.mem_of_getElem? es⟩
              refine ⟨D3, xs, numAt HA, restAt HA, rfl, SqL.of hD3, fun x hx => ?_, fun x hx y hy e => ?_, fun ys py perm srt npy => ?_⟩
              · obtain ⟨t, tp, z, s, rfl, ht, _⟩ := fx x hx
                exact ⟨t, rfl, by rw [numAt_of ht, restAt_of ht]; exact ht⟩
              · obtain ⟨j1, hj1⟩ := List.mem_iff_getElem?.mp hx
                obtain ⟨j2, hj2⟩ := List.mem_iff_getElem?.mp hy
                have mn := map_num hxs fun x hx => by
                  obtain ⟨z, e1, _⟩ := memAL x hx
                  rw [e1]
                  rfl
                have nn := nums_nd ndAL injAL
                rw [← mn] at nn
                have := nodup_get nn (i := j1) (j := j2) (x := numAt HA x) (by rw [List.getElem?_map, hj1]; rfl) (by rw [List.getElem?_map, hj2, e]; rfl)
                rw [this, hj2] at hj1
                exact (Option.some.inj hj1).symm
              · have sB := same_new (o := .lst ys) npy
                generalize hHB : upd HA py (.lst ys) = HB at *
                have hpy : HB py = some (.lst ys) := by rw [← hHB]; exact upd_same
                have AB := AA.same sB
                have fy : ∀ y ∈ ys, ∃ t tp z s, y = .ref t ∧ HB t = some (.tup [.int z, .ref tp]) ∧ IsPlace HB tp s ∧ s ∈ rangeP bb bb.long ∧ nx s = some z := fun y hy => by
                  obtain ⟨t, tp, z, s, rfl, ht, htp, m, e, _⟩ := fx y (perm.mem_iff.mp hy)
                  exact ⟨t, tp, z, s, rfl, sB _ _ ht, sB _ _ htp, m, e⟩
                refine ⟨.int (a : Int), rfl, (a : Int), 1, rfl, rfl, ?_⟩
                by_cases hX : 120 ∈ r.rhythm
                · obtain ⟨n1, an, xn, non⟩ := xAt_some hX a
                  let s0 : PlaceL := goL bb (r.stop up) (-(1 + (n1 : Int)))
                  have ah : Ahead bb r up a n1 s0 := ⟨an, xn, non, rfl⟩
                  have s0m := ah.mem inb
                  have nx0 : nx s0 = some ((n1 : Int) + 1) := by
                    have ps := ah.pass inb
                    have ne : restsP (passB bb r up s0) (commonL bb r) ≠ [] := fun no => by
                      have := restsP_nil.mp no (n1 % commonL bb r) (Nat.mod_lt _ cp)
                      have e := per_mul (passB_per bb r up s0) (n1 / commonL bb r) (n1 % commonL bb r)
                      rw [Nat.div_add_mod, ps, this] at e
                      cases e
                    obtain ⟨z', e', hz'⟩ := nextP cp (passB_per bb r up s0) a ne
                    rw [hz'.uniq (ah.next inb)] at e'
                    exact e'
                  refine ⟨fun m σ H' => ∃ nn : Nat, σ = [some (.ref g.f), some (.ref rd), some (.ref p), some (.int i), some (.str (sideT up)), some (.str (tx r.rhythm)), some (.ref ts), some (.ref D), some (.int (0 + (i' : Int))), v9, v10, v11, some (.int (a : Int)), some (.ref py), some (.int ((nn : Int) + 1)), v15, none, none, none, none] ∧ H' = HB ∧ a ≤ nn ∧ nn + m = n1, ⟨n1 - a, a, rfl, rfl, Nat.le_refl _, by omega⟩, ?_⟩
                  rintro m σ H' ⟨nn, rfl, rfl, ann, enn⟩
                  obtain ⟨c, ec, ic⟩ := xAt_get rlen nn
                  have bx : decide (120 ∈ (tx r.rhythm).cps.toList) = true := by rw [tx_list]; exact decide_eq_true hX
                  have at_c : atI ((tx r.rhythm).cps.toList) (((nn : Int) + 1 - 1) % (r.rhythm.length : Int)) = some c := by
                    rw [tx_list, Int.add_sub_cancel, ← Int.natCast_emod]
                    exact atI_nat ec
                  refine ⟨.str (tx r.rhythm), rfl, 120, tx r.rhythm, rfl, rfl, _, rfl, yesOf bx ?_⟩
                  refine ⟨.str (tx r.rhythm), rfl, .int ((nn : Int) + 1), rfl, _, 1, rfl, rfl, .str (tx r.rhythm), rfl, .str (tx r.rhythm), r.rhythm.length, rfl, ⟨fitr, (tx_len _).symm⟩, _, _, rfl, rfl, (by omega), tx r.rhythm, _, c, rfl, rfl, fitr, at_c, rfl, _, rfl, ?_⟩
                  by_cases here : nn = n1
                  · subst here
                    have c120 : c = 120 := ic.mp xn
                    subst c120
                    refine noOf (by rw [decide_eq_true (show V.str ⟨#[120]⟩ = V.str "x" from rfl)]; rfl) ?_
                    -- the first of the sorted
                    have iv : (some ((nn : Int) + 1), s0) ∈ AL := List.mem_filter.mpr ⟨List.mem_map.mpr ⟨s0, s0m, by rw [nx0]⟩, rfl⟩
                    obtain ⟨jv, hjv⟩ := List.mem_iff_getElem?.mp iv
                    obtain ⟨v0, hv0, tv, tpv, rfl, htv, htpv⟩ := hxs.of hjv
                    have v0y : V.ref tv ∈ ys := perm.mem_iff.mpr (List.mem_of_getElem? hv0)
                    have nv0 : numAt HA (.ref tv) = (nn : Int) + 1 := numAt_of htv
                    have numb : ∀ y ∈ ys, ∃ t tp z s, y = .ref t ∧ HA t = some (.tup [.int z, .ref tp]) ∧ IsPlace HA tp s ∧ s ∈ rangeP bb bb.long ∧ nx s = some z ∧ numAt HA y = z ∧ (s = s0 ∨ (nn : Int) + 1 < z) ∧ (s = s0 → z = (nn : Int) + 1) := fun y hy => by
                      obtain ⟨t, tp, z, s, rfl, ht, htp, m, e, _⟩ := fx y (perm.mem_iff.mp hy)
                      refine ⟨t, tp, z, s, rfl, ht, htp, m, e, numAt_of ht, ?_, fun es => ?_⟩
                      · by_cases es : s = s0
                        · exact .inl es
                        · exact .inr (ah.others inb m es (nxt e))
                      · rw [es, nx0] at e
                        exact (Option.some.inj e).symm
                    obtain ⟨y0, yr, eys⟩ : ∃ y0 yr, ys = y0 :: yr := by
                      cases ys with
                      | nil => cases v0y
                      | cons y yr => exact ⟨y, yr, rfl⟩
                    subst eys
                    obtain ⟨t0, tp0, z0, sx, rfl, ht0, htp0, m0, e0, n0, or0, if0⟩ := numb y0 (List.mem_cons_self ..)
                    have z0e : z0 ≤ (nn : Int) + 1 := by
                      rcases List.mem_cons.mp v0y with e | hr2
                      · rw [← e, nv0] at n0
                        omega
                      · have := (List.pairwise_cons.mp srt).1 _ hr2
                        rw [n0, nv0] at this
                        exact this
                    have sx0 : sx = s0 := or0.elim id fun z => by omega
                    subst sx0
                    have z01 : z0 = (nn : Int) + 1 := if0 rfl
                    subst z01
                    have restNe : ∀ y ∈ yr, ∃ t tp z, y = .ref t ∧ HA t = some (.tup [.int z, .ref tp]) ∧ ¬ z = (nn : Int) + 1 := fun y hy => by
                      obtain ⟨t, tp, z, s, rfl, ht, _, _, _, n, _⟩ := numb y (List.mem_cons_of_mem _ hy)
                      refine ⟨t, tp, z, rfl, ht, fun ez => ?_⟩
                      have mn := map_num hxs fun x hx => by
                        obtain ⟨z, e1, _⟩ := memAL x hx
                        rw [e1]
                        rfl
                      have nn2 := nums_nd ndAL injAL
                      rw [← mn] at nn2
                      have nd3 : ((V.ref t0 :: yr).map (numAt HA)).Nodup := (perm.map _).nodup_iff.mpr nn2
                      rw [List.map_cons] at nd3
                      refine (List.nodup_cons.mp nd3).1 ?_
                      rw [n0]
                      exact List.mem_map.mpr ⟨_, hy, by rw [n, ez]⟩
                    have low0 : ∀ {s : PlaceL}, s ∈ rangeP bb bb.long → Low s.name := fun {s} hs => lowP s (inPl s hs)
                    refine ⟨.str (tx r.rhythm), rfl, 120, tx r.rhythm, rfl, rfl, _, rfl, noOf (by rw [bx]; rfl) ?_⟩
                    -- it is not empty
                    refine ⟨.ref py, rfl, (by show 0 ≤ sizeLine; decide), fun l9 nl9 => ?_⟩
                    have s9' := same_new (o := .lst []) nl9
                    obtain ⟨ds, dp1, dp2, dp3, dp4⟩ := dps_pairs (K := K) (H := upd H' l9 (.lst [])) (ys := V.ref t0 :: yr) fun y hy => by
                      obtain ⟨t, tp, z, s, e, ht, htp, m, _⟩ := fy y hy
                      exact ⟨t, tp, z, s, e, s9' _ _ ht, s9' _ _ htp, low0 m⟩
                    refine ⟨_, _, .lst (SqL.of (s9' _ _ hpy)) dp1, dp_ints (ns := []) (SqL.of upd_same), shaped_all dp2 dp3, shaped_ints [], _, rfl, noOf (eqv_some fun z => by rw [z] at dp4; cases dp4) ?_⟩
                    have AC := AB.same s9'
                    have hpyC := s9' _ _ hpy
                    have ht0C := s9' _ _ (sB _ _ ht0)
                    have htp0C : IsPlace (upd H' l9 (.lst [])) tp0 s0 := s9' _ _ (sB _ _ htp0)
                    generalize hHC : upd H' l9 (.lst []) = HC at *
                    refine ⟨.ref py, rfl, py, _, _, _, rfl, rfl, SqL.of hpyC, atI_nat (j := 0) rfl, t0, _, _, _, rfl, rfl, SqT.of ht0C, atI_nat (j := 0) rfl, .int ((nn : Int) + 1), rfl, rfl, _, rfl, noOf (by rw [decide_eq_true rfl]; rfl) ?_⟩
                    refine ⟨.ref py, rfl, 1, rfl, py, _, rfl, SqL.of hpyC, fun c9 nc9 => ?_⟩
                    rw [cut_rest]
                    have sc9 := same_new (o := .lst yr) nc9
                    refine ⟨c9, rfl, ⟨_, SqL.of upd_same⟩, fun D4 nD4 => ?_⟩
                    refine lc_it (walk_list (K := K) (a := c9) (xs := yr)) (fun j HD => Same (upd HC c9 (.lst yr)) HD ∧ HD D4 = some (.lst [])) ⟨same_new nD4, upd_same⟩ (fun j HD _ z => SqL.of (z.1 _ _ upd_same)) ?_ ?_
                    · rintro j x HD HE hj ⟨sm, hD4⟩ ⟨rfl, hx⟩
                      obtain ⟨t, tp, z, rfl, ht, nez⟩ := restNe x (List.mem_of_getElem? hx)
                      have htD := sm _ _ (sc9 _ _ (s9' _ _ (sB _ _ ht)))
                      exact ⟨rfl, .ref t, rfl, t, _, _, _, rfl, rfl, SqT.of htD, atI_nat (j := 0) rfl, .int ((nn : Int) + 1), rfl, rfl, _, rfl, noOf (decide_eq_false fun h => nez (V.int.inj h)) ⟨sm, hD4⟩⟩
                    · rintro HD ⟨sm, hD4⟩
                      refine ⟨(by show 0 ≤ sizeLine; decide), fun la nla => ?_⟩
                      have sla := same_new (o := .lst []) nla
                      refine ⟨_, _, dp_ints (ns := []) (SqL.of (sla _ _ hD4)), dp_ints (ns := []) (SqL.of upd_same), shaped_ints [], shaped_ints [], _, rfl, noOf (by rfl) ?_⟩
                      have sCD := sc9.trans (sm.trans sla)
                      have AD := AC.same sCD
                      have hpyD := sCD _ _ hpyC
                      have ht0D := sCD _ _ ht0C
                      have htp0D : IsPlace (upd HD la (.lst [])) tp0 s0 := sCD _ _ htp0C
                      generalize upd HD la (.lst []) = HE at *
                      have goF : goL bb s0 ((nn : Int) + 1) = r.stop up := (go_back s0m inb _).mpr (by show goL bb (r.stop up) (-(1 + (nn : Int))) = _; rw [Int.add_comm])
                      have goB : goL bb (r.stop up) (0 - ((nn : Int) + 1)) = s0 := by
                        show _ = goL bb (r.stop up) (-(1 + (nn : Int)))
                        rw [show (0 : Int) - ((nn : Int) + 1) = -(1 + (nn : Int)) by omega]
                      have s0n : bb.name = s0.name := (mem_rangeP.mp s0m).1.symm
                      have lowS := lowP _ stm
                      have low0' := low0 s0m
                      have ps0 := ah.pass inb
                      -- there and back
                      refine ⟨.ref p, rfl, .ref py, rfl, py, _, _, _, rfl, rfl, SqL.of hpyD, atI_nat (j := 0) rfl, t0, _, _, _, rfl, rfl, SqT.of ht0D, atI_nat (j := 1) rfl, .int ((nn : Int) + 1), rfl, p, tp0, k, s0, bb, (nn : Int) + 1, rfl, AD.sc.iw, ok.bs, htp0D, inPl _ s0m, bo1, s0n, fun rr HF sF hrr => ?_⟩
                      rw [goF] at hrr
                      refine ⟨.ref ts, rfl, _, _, dp_place hrr, dp_place (sF _ _ AD.st), shaped_place lowS, shaped_place lowS, _, rfl, noOf (by rw [SeqAt.eqv_refl _ (lay_place lowS)]; rfl) ?_⟩
                      have AF := AD.same sF
                      refine ⟨.ref p, rfl, .ref ts, rfl, .int ((nn : Int) + 1), rfl, 0, (nn : Int) + 1, rfl, rfl, p, ts, k, r.stop up, bb, (0 : Int) - ((nn : Int) + 1), rfl, AF.sc.iw, ok.bs, AF.st, stm, bo1, bo2, fun rr2 HG sG hrr2 => ?_⟩
                      rw [goB] at hrr2
                      have sFG := sF.trans sG
                      refine ⟨.ref py, rfl, py, _, _, _, rfl, rfl, SqL.of (sFG _ _ hpyD), atI_nat (j := 0) rfl, t0, _, _, _, rfl, rfl, SqT.of (sFG _ _ ht0D), atI_nat (j := 1) rfl, _, _, dp_place hrr2, dp_place (show IsPlace HG tp0 s0 from sFG _ _ htp0D), shaped_place low0', shaped_place low0', _, rfl, noOf (by rw [SeqAt.eqv_refl _ (lay_place low0')]; rfl) ?_⟩
                      have AG := AF.same sG
                      -- counted
                      refine ⟨.int (a : Int), rfl, .int ((nn : Int) + 1), rfl, (nn : Int) + 1, 1, rfl, rfl, .int ((nn : Int) + 1), rfl, (by show 3 ≤ sizeLine; decide), fun T5 nT5 => ?_⟩
                      let us : List Nat := [a, nn, nn + 1]
                      generalize hHT : upd HG T5 _ = HT
                      have s5' : Same HG HT := by
                        rw [← hHT]
                        exact same_new nT5
                      have hT5 : HT T5 = some (.tup (us.map fun u : Nat => V.int (u : Int))) := by
                        rw [← hHT, upd_same]
                        show some (HO.tup [V.int (a : Int), V.int ((nn : Int) + 1 - 1), V.int ((nn : Int) + 1)]) = _
                        rw [Int.add_sub_cancel]
                        rfl
                      refine ⟨T5, rfl, ⟨_, SqT.of hT5⟩, fun D5 nD5 => ?_⟩
                      have AT := AG.same s5'
                      have sHT := sFG.trans s5'
                      refine lc_v (walk_tup (K := K) (a := T5) (xs := us.map fun u : Nat => V.int (u : Int))) (fun HI sm => SqT.of (sm _ _ hT5)) (fun j HI l' => l' = (us.take j).map fun u => V.int ((cnt (passB bb r up s0) u : Nat) : Int)) (fun _ => rfl) (fun j HI l' hj h => ?_) (fun j HI HJ l' kn h => h) nD5 ?_ ?_
                      · rw [h, List.length_map, List.length_take]
                        show min j 3 ≤ 1000
                        omega
                      · rintro j x HI HJ l' Qy Qn hj sm hl' ⟨rfl, hx⟩ qy _
                        obtain ⟨u, eu, rfl⟩ : ∃ u : Nat, us[j]? = some u ∧ x = .int (u : Int) := by
                          rw [List.getElem?_map] at hx
                          cases e : us[j]? with
                          | none =>
                            rw [e] at hx
                            cases hx
                          | some u =>
                            rw [e] at hx
                            exact ⟨u, rfl, (Option.some.inj hx).symm⟩
                        have sAll := sHT.trans sm
                        have ask : Asked CW CB CP HJ p tp0 k i r s0 bb := ⟨AT.sc.iw.same sm, ok, er, sAll _ _ htp0D, inPl _ s0m, bo1, s0n⟩
                        refine ⟨rfl, yes_kept ?_⟩
                        refine ⟨.ref p, rfl, .int i, rfl, .str (sideT up), rfl, .ref py, rfl, py, _, _, _, rfl, rfl, SqL.of (sAll _ _ hpyD), atI_nat (j := 0) rfl, t0, _, _, _, rfl, rfl, SqT.of (sAll _ _ ht0D), atI_nat (j := 1) rfl, .int (u : Int), rfl, rfl, rfl, p, tp0, k, i, r, up, s0, bb, (u : Int), rfl, ask, fun HK sK => qy _ HK sK ?_⟩
                        rw [countL_cnt ask.common.1, hl', List.take_add_one, eu, List.map_append]
                        rfl
                      · intro HI cl sI hcl hD5
                        have c1 : cnt (passB bb r up s0) nn = cnt (passB bb r up s0) a := cnt_same an fun j h1 h2 => ah.noPass s0 j h1 h2
                        have c2 : cnt (passB bb r up s0) (nn + 1) = cnt (passB bb r up s0) a + 1 := by
                          rw [cnt_succ, c1, if_pos ps0]
                        have ecl : cl = [V.int ((cnt (passB bb r up s0) a : Nat) : Int), V.int ((cnt (passB bb r up s0) a : Nat) : Int), V.int (((cnt (passB bb r up s0) a : Nat) : Int) + 1)] := by
                          rw [hcl]
                          show [V.int ((cnt (passB bb r up s0) a : Nat) : Int), V.int ((cnt (passB bb r up s0) nn : Nat) : Int), V.int ((cnt (passB bb r up s0) (nn + 1) : Nat) : Int)] = _
                          rw [c1, c2]
                          rfl
                        rw [ecl] at hD5
                        generalize ((cnt (passB bb r up s0) a : Nat) : Int) = cz at hD5
                        refine ⟨.ref D5, rfl, .ref D5, rfl, D5, _, _, _, rfl, rfl, SqL.of hD5, atI_nat (j := 0) rfl, .ref D5, rfl, D5, _, _, _, rfl, rfl, SqL.of hD5, atI_nat (j := 0) rfl, .ref D5, rfl, D5, _, _, _, rfl, rfl, SqL.of hD5, atI_nat (j := 0) rfl, cz, 1, rfl, rfl, (by show 3 ≤ sizeLine; decide), fun lz nlz => ?_⟩
                        have sz' := same_new (o := .lst [.int cz, .int cz, .int (cz + 1)]) nlz
                        refine ⟨_, _, dp_ints (ns := [cz, cz, cz + 1]) (SqL.of (sz' _ _ hD5)), dp_ints (ns := [cz, cz, cz + 1]) (SqL.of upd_same), shaped_ints _, shaped_ints _, _, rfl, noOf (by rw [SeqAt.eqv_refl _ (SeqAt.canLay_of_shaped (shaped_ints _))]; rfl) ?_⟩
                        refine ⟨.int ((nn : Int) + 1), rfl, ?_⟩
                        exact ⟨nn + 1, _, _, _, _, _, _, _, rfl, (AT.same sI).same sz'⟩
                  · have lt : nn < n1 := by omega
                    have cne : ¬ c = 120 := fun z => by
                      have := non nn ann lt
                      rw [ic.mpr z] at this
                      cases this
                    have ne : ¬ V.str ⟨#[c]⟩ = V.str "x" := fun h => cne (List.singleton_inj.mp (tx_inj (a := [c]) (b := [120]) (V.str.inj h)))
                    refine yesOf (by rw [decide_eq_false ne]; rfl) ?_
                    refine ⟨fun σ' H'' => σ' = [some (.ref g.f), some (.ref rd), some (.ref p), some (.int i), some (.str (sideT up)), some (.str (tx r.rhythm)), some (.ref ts), some (.ref D), some (.int (0 + (i' : Int))), v9, v10, v11, some (.int (a : Int)), some (.ref py), some (.int (((nn + 1 : Nat) : Int) + 1)), v15, none, none, none, none] ∧ H'' = H', ?_, ?_⟩
                    · rintro σ' H'' ⟨rfl, rfl⟩
                      exact ⟨m - 1, by omega, nn + 1, rfl, rfl, by omega, by omega⟩
                    · exact ⟨.int ((nn : Int) + 1), rfl, _, 1, rfl, rfl, rfl, rfl⟩
                · have noP : ∀ s (j : Nat), passB bb r up s j = false := fun s j => by
                    cases e : passB bb r up s j with
                    | false => rfl
                    | true =>
                      have := xAt_none hX j
                      rw [passB_x e] at this
                      cases this
                  have ys0 : ys = [] := by
                    cases ys with
                    | nil => rfl
                    | cons y ys =>
                      obtain ⟨t, tp, z, s, _, _, _, _, e⟩ := fy y (List.mem_cons_self ..)
                      have : nx s = none := next_nil (restsP_nil.mpr fun j _ => noP s j) _
                      rw [this] at e
                      cases e
                  subst ys0
                  have bx : decide (120 ∈ (tx r.rhythm).cps.toList) = false := by rw [tx_list]; exact decide_eq_false hX
                  refine ⟨fun m σ H' => σ = [some (.ref g.f), some (.ref rd), some (.ref p), some (.int i), some (.str (sideT up)), some (.str (tx r.rhythm)), some (.ref ts), some (.ref D), some (.int (0 + (i' : Int))), v9, v10, v11, some (.int (a : Int)), some (.ref py), some (.int ((a : Int) + 1)), v15, none, none, none, none] ∧ H' = HB, ⟨0, rfl, rfl⟩, ?_⟩
                  rintro m σ H' ⟨rfl, rfl⟩
                  refine ⟨.str (tx r.rhythm), rfl, 120, tx r.rhythm, rfl, rfl, _, rfl, noOf bx ?_⟩
                  refine noOf rfl ?_
                  refine ⟨.str (tx r.rhythm), rfl, 120, tx r.rhythm, rfl, rfl, _, rfl, yesOf (by rw [bx]; rfl) ?_⟩
                  refine ⟨.ref py, rfl, (by show 0 ≤ sizeLine; decide), fun l9 nl9 => ?_⟩
                  have s99 := same_new (o := .lst []) nl9
                  refine ⟨_, _, dp_ints (ns := []) (SqL.of (s99 _ _ hpy)), dp_ints (ns := []) (SqL.of upd_same), shaped_ints [], shaped_ints [], ?_⟩
                  refine qbl (by rfl) (q _ (AB.same s99).kp ((AB.same s99).sc.fe.le (by omega)))
        · rintro σ H8 ⟨a, v8, v9, v10, v11, v13, v14, v15, rfl, A8⟩
          exact q H8 A8.kp (A8.sc.fe.le (by omega))
end
end K05
set_option Elab.async false
set_option linter.all false
set_option maxRecDepth 100000
set_option maxHeartbeats 4000000
set_option exponentiation.threshold 400
/-! The law's own hand: passes come again. -/
namespace K05
open PySem PySem.Spec PyProof.Rows L2 Bp
theorem told_all (rs : List Int) (B c : Int) : (List.range (rs.length + 1)).map (told rs B c) = rs.map (fun x => B + x) ++ [B + c + rs.headD 0] := by
  rw [List.range_succ, List.map_append]
  congr 1
  · refine List.ext_getElem? fun i => ?_
    rw [List.getElem?_map, List.getElem?_map]
    rcases Nat.lt_or_ge i rs.length with lt | ge
    · rw [List.getElem?_eq_getElem lt, List.getElem?_range lt]
      show some (told rs B c i) = some (B + rs[i])
      unfold told
      rw [if_pos lt, List.getD_eq_getElem?_getD, List.getElem?_eq_getElem lt]
      rfl
    · rw [List.getElem?_eq_none_iff.mpr ge, List.getElem?_eq_none_iff.mpr (by rw [List.length_range]; exact ge)]
      rfl
  · show [told rs B c rs.length] = _
    unfold told
    rw [if_neg (Nat.lt_irrefl _)]
section
variable {P : Program} {w : World} {K : PySem.W.Frag} {mg : Str → Option Value} {base : Heap} {CW CB CP : Addr}
abbrev NsC : List Str := ["_law_feed_here", "_law_work", "_law_number", "_law_side", "_law_place", "_law_many", "_law_rests", "_law_begin", "_law_found", "_law_at", "_law_turn", "_law_rest"]
theorem scAgain : FnScope NsC ["_law_feed_here", "_law_work", "_law_number", "_law_side", "_law_place"] (defScope s_law_comes_again) := ⟨rfl, rfl, rfl, by decide +kernel, rfl, by decide +kernel, by decide +kernel⟩
def sp_again (K : PySem.W.Frag) (CW CB CP : Addr) : Sp := fun vs H Q _ => ∃ (g : Fed) (p t : Addr) (k : WorkL) (i : Nat) (r : PressL) (up : Bool) (s : PlaceL) (n : Nat), vs = [.ref g.f, .ref p, .int i, .str (sideT up), .ref t] ∧ IsWork CW CB CP H p k ∧ k.Ok ∧ k.presses[i]? = some r ∧ IsPlace H t s ∧ s ∈ k.places ∧ FeedAt K H g n ∧ n ≤ 2 ^ 28 ∧
  ∀ H', Kept g.f H H' → FeedAt K H' g (n + 5) → Q (.bl true) H'
theorem ok_again {f : Addr} {fd : FuncData} {k : Nat} (B : Blt mg) (mm : mg "min" = none) (h : Hands P w K mg base CW CB CP k) (DPs : Def P w K mg base CX0 k "passes" s_passes ["work", "press", "side", "place"] (sp_passes CW CB CP)) (F : Fun K "_law_comes_again" "_law_comes_again" s_law_comes_again f fd) :
    FnOk P w K mg base CX0 (k + 1) f fd ["_law_feed_here", "_law_work", "_law_number", "_law_side", "_law_place"] (sp_again K CW CB CP) := by
  obtain ⟨fS, fdS, FS, bS, gS, GS⟩ := DPs.ex
  obtain ⟨fR, fdR, FR, bR, gR, GR⟩ := h.far.ex
  obtain ⟨fN, fdN, FN, gN, GN⟩ := h.next
  obtain ⟨mvN, kN⟩ := kb_next FN
  refine F.ok scAgain (fun vs H Q E h => ?_) (fun cdv A outer sh H vs Q E hr h => ?_)
  · obtain ⟨g, p, t, k, i, r, up, s, n, rfl, _⟩ := h
    rfl
  · obtain ⟨g, p, t, k, i, r, up, s, n, rfl, iw, ok, er, ip, hs, fe, hn, q⟩ := h
    have hu64 : A.units + 3 + 64 < cLine := hr.units
    refine ⟨_, pss_cons (ps_asg (pe_call GS hr rfl gS FS.kp bS .nil pass0 (pa_cons (pv 1) (pa_cons (pv 2) (pa_cons (pv 3) (pa_cons (pv 4) pa_nil))))) (pg_tup rfl (pgs_cons (pg_name (i := 5) scAgain.nd rfl (.inl rfl)) (pgs_cons (pg_name (i := 6) scAgain.nd rfl (.inl rfl)) pgs_nil))))
      (pss_cons (ps_set (i := 7) scAgain.nd rfl (.inr rfl) (pe_op op_mul (pe_op op_fdiv (pe_callB (call_min2 rfl) (by rfl) mm (by decide +kernel) (pa_cons (pe_op op_sub (pe_op op_pow pe_int pe_int) pe_int) (pa_cons (pe_call GR hr rfl gR FR.kp bR .nil pass0 (pa_cons (pv 0) pa_nil)) pa_nil))) (pv 5)) (pv 5)))
      (pss_cons (ps_if (pt_cmpR (op_eqD hu64) (pv 6) (pe_lst pa_nil) (nomark _)) (pss_one (ps_ret (pe_cmpR op_isN (pe_callN GN hr rfl gN FN.kp kN pass0 (pa_cons (pv 1) (pa_cons (pv 2) (pa_cons (pv 3) (pa_cons (pv 4) pa_nil)))) (pk_cons (pv 7) pk_nil)) pe_non (by rfl)))) pss_nil)
      (pss_cons (ps_par (i := 8) (j := 9) rfl scAgain.nd rfl rfl (by decide) rfl rfl (pa_cons (pe_lst pa_nil) (pa_cons (pv 7) pa_nil)) (by rfl))
      (pss_cons (ps_for PassesOwn.never rfl (pi_range1 (by rfl) B.rng (pa_cons (pe_op op_add (pe_callB call_len (by rfl) B.len PySem.boot_len (pa_cons (pv 6) pa_nil)) pe_int) pa_nil)) (pg_name (i := 10) scAgain.nd rfl (Or.inl rfl))
        (pss_cons (ps_set (i := 9) scAgain.nd rfl (.inl rfl) (pe_callN GN hr rfl gN FN.kp kN pass0 (pa_cons (pv 1) (pa_cons (pv 2) (pa_cons (pv 3) (pa_cons (pv 4) pa_nil)))) (pk_cons (pv 9) pk_nil)))
        (pss_cons (ps_if (pt_not (pt_val (pe_callB call_isi (by rfl) B.isi (by decide +kernel) (pa_cons (pv 9) (pa_cons (pe_bltn (u := .type "int") (v := .ty "int") (by rfl) B.int (by decide +kernel) (by rfl)) pa_nil))))) (pss_one (ps_ret pe_bl)) pss_nil)
        (pss_one (ps_expr (pe_bm PySem.F.plainAttrs_list PySem.F.slot_list_append PySem.F.type_list_append mt_append (pv 8) (pa_cons (pv 9) pa_nil)))))))
      (pss_one (ps_ret (pe_cmpR (op_eqD hu64) (pv 8) (pe_op op_cat (pe_lc (own := [("_law_rest", 11)]) (g := gName 11) (tt := tYes) rfl scAgain.nd (pi_list (pv 6)) (blkOk_by (own := [("_law_rest", 11)]) (N := NsC) (sc := defScope s_law_comes_again) (by decide +kernel))
          (fun _ _ _ _ _ => pg_name (i := 11) scAgain.nd rfl (Or.inl rfl)) (fun _ _ _ _ _ => pts_nil) (fun _ _ _ _ _ => pe_op op_add (pv 7) (pv 11)))
          (pe_lst (pa_cons (pe_op op_add (pe_op op_add (pv 7) (pv 5)) (pe_ix ix_list (pv 6) pe_int (fun _ _ => rfl))) pa_nil))) (nomark _)))))))), ?_⟩
    obtain ⟨bo1, bo2⟩ := bandOf_mem (show s ∈ placesL k.bands from hs)
    have ask : ∀ {H' : Hp}, IsWork CW CB CP H' p k → IsPlace H' t s → Asked CW CB CP H' p t k i r s (bandOf k.bands s) := fun {H'} w' i' => ⟨w', ok, er, i', hs, bo1, bo2⟩
    obtain ⟨c0, c1⟩ := (ask iw ip).common
    generalize hb : bandOf k.bands s = b at *
    refine ⟨.ref p, rfl, .int i, rfl, .str (sideT up), rfl, .ref t, rfl, p, t, k, i, r, up, s, b, rfl, iw, ok, er, ip, hs, bo1, bo2, fun T l H1 s1 hT hl => ?_⟩
    refine ⟨T, _, rfl, SqT.of hT, rfl, _, _, rfl, _, _, rfl, rfl, ?_⟩
    have fe1 := fe.same s1
    have e60 : (10 : Int) ^ (60 : Int).toNat = 1000000000000000000000000000000000000000000000000000000000000 := by decide
    refine ⟨10, 60, rfl, rfl, ⟨by decide, by decide, by decide⟩, _, 500, rfl, rfl, ?_⟩
    refine ⟨.ref g.f, rfl, g, n, rfl, fe1, by omega, fun far H2 f0 f1 fe2 kp2 => ?_⟩
    refine ⟨_, _, rfl, ?_⟩
    have c0' : (0 : Int) < (commonL b r : Nat) := by omega
    refine ⟨.int (commonL b r : Nat), rfl, _, _, rfl, rfl, ⟨c0', by omega⟩, .int (commonL b r : Nat), rfl, _, _, rfl, rfl, .inr ⟨by omega, by omega⟩, ?_⟩
    obtain ⟨B0, eB⟩ : ∃ qq : Nat, (if far < (10 : Int) ^ (60 : Int).toNat - 500 then far else (10 : Int) ^ (60 : Int).toNat - 500) / ((commonL b r : Nat) : Int) * ((commonL b r : Nat) : Int) = ((commonL b r * qq : Nat) : Int) := by
      obtain ⟨x, hx⟩ : ∃ x : Nat, (if far < (10 : Int) ^ (60 : Int).toNat - 500 then far else (10 : Int) ^ (60 : Int).toNat - 500) = (x : Int) := by
        rw [e60]
        split
        · exact ⟨far.toNat, by omega⟩
        · exact ⟨1000000000000000000000000000000000000000000000000000000000000 - 500, by decide⟩
      rw [hx]
      refine ⟨x / commonL b r, ?_⟩
      rw [← Int.natCast_ediv, ← Int.natCast_mul, Nat.mul_comm]
    show gName 7 (V.int ((if far < (10 : Int) ^ (60 : Int).toNat - 500 then far else (10 : Int) ^ (60 : Int).toNat - 500) / ((commonL b r : Nat) : Int) * ((commonL b r : Nat) : Int))) _ _ _
    rw [eB]
    have kp02 : Kept g.f H H2 := (Kept.of s1).trans kp2
    have kd := Kd.kept fe1 kp2
    have iw2 := (iw.same s1).kd kd
    have ip2 : IsPlace H2 t s := kd _ _ (by intro xs z; cases z) (s1 _ _ ip)
    have hl2 : H2 l = some (.lst ((restsP (passB b r up s) (commonL b r)).map V.int)) := kd _ _ (by intro xs z; cases z) hl
    have per := passB_per b r up s
    generalize hp : passB b r up s = pp at *
    generalize hc : commonL b r = c at *
    have nextIs : ∀ u : Int, nextOf (restsL b r up s c) (c : Nat) u = nextOf (restsP pp c) (c : Nat) u := fun u => by
      rw [← hp]
      rfl
    refine ⟨.ref l, rfl, (by show 0 ≤ sizeLine; decide), fun l3 nl3 => ?_⟩
    have s3 := same_new (o := .lst []) nl3
    refine ⟨_, _, dp_ints (SqL.of (s3 _ _ hl2)), dp_ints (ns := []) (SqL.of upd_same), shaped_ints _, shaped_ints [], _, rfl, ?_⟩
    have iw3 := iw2.same s3
    have ip3 := s3 _ _ ip2
    have hl3 := s3 _ _ hl2
    have fe3 := fe2.same s3
    have kp03 := kp02.trans (Kept.of s3)
    generalize upd H2 l3 (.lst []) = H3 at *
    by_cases em : restsP pp c = []
    · refine yesOf (by rw [em]; rfl) ?_
      refine ⟨.ref p, rfl, .int i, rfl, .str (sideT up), rfl, .ref t, rfl, .int ((c * B0 : Nat) : Int), rfl, rfl, rfl, p, t, k, i, r, up, s, b, _, rfl, hb ▸ ask iw3 ip3, fun H4 s4 => ⟨rfl, ?_⟩⟩
      rw [hc, nextIs, next_nil em]
      exact qbl rfl (q H4 (kp03.trans (Kept.of s4)) (fe3.same s4))
    · refine noOf (by
        show PyData.eqv (.list ((restsP pp c).map PyData.int)) (.list []) = false
        rw [eqv_nil]
        exact decide_eq_false em) ?_
      have len := List.length_pos_iff.mpr em
      have few : (restsP pp c).length ≤ 100 := by
        unfold restsP
        rw [List.length_map]
        refine Nat.le_trans (List.length_filter_le _ _) ?_
        rw [List.length_range]
        exact c1
      refine ⟨(by show 0 ≤ sizeLine; decide), fun fl nfl => ?_⟩
      refine ⟨.int ((c * B0 : Nat) : Int), rfl, _, _, rfl, ?_⟩
      refine ⟨.ref l, rfl, .ref l, (restsP pp c).length, rfl, .inl ⟨_, SqL.of (same_new nfl _ _ hl3), (List.length_map _).symm⟩, _, 1, rfl, rfl, (((restsP pp c).length : Int) + 1), rfl, by omega, by omega, ?_⟩
      have tn : (((restsP pp c).length : Int) + 1).toNat = (restsP pp c).length + 1 := by omega
      rw [tn]
      refine for_it (walk_range (lo := 0) (n := (restsP pp c).length + 1)) (fun j σ H4 => ∃ v10 : Option V, σ = [some (.ref g.f), some (.ref p), some (.int i), some (.str (sideT up)), some (.ref t), some (.int (c : Nat)), some (.ref l), some (.int ((c * B0 : Nat) : Int)), some (.ref fl), some (.int (asked (restsP pp c) ((c * B0 : Nat) : Int) (c : Int) j)), v10, none] ∧
          Same H3 H4 ∧ H4 fl = some (.lst (((List.range j).map (told (restsP pp c) ((c * B0 : Nat) : Int) (c : Int))).map V.int))) ⟨none, rfl, same_new nfl, upd_same⟩ (fun _ _ _ _ _ => trivial) ?_ ?_
      · rintro j x σ H4 H4' hj ⟨v10, rfl, s4, hfl⟩ ⟨rfl, rfl⟩
        refine ⟨.ref p, rfl, .int i, rfl, .str (sideT up), rfl, .ref t, rfl, .int (asked (restsP pp c) ((c * B0 : Nat) : Int) (c : Int) j), rfl, rfl, rfl, p, t, k, i, r, up, s, b, _, rfl, hb ▸ ask (iw3.same s4) (s4 _ _ ip3), fun H5 s5 => ?_⟩
        rw [hc, nextIs, tell_next c0 per em j (by omega)]
        have h5 := s5 _ _ hfl
        refine ⟨.int (told (restsP pp c) ((c * B0 : Nat) : Int) (c : Int) j), rfl, .int _, .ty "int", .type "int", .type "int", true, rfl, .ty _, .base (.int _), kit_ty (by decide +kernel), true, rfl, noOf rfl ?_⟩
        refine ⟨.ref fl, rfl, .inl ⟨rfl, _, SqL.of h5⟩, .int (told (restsP pp c) ((c * B0 : Nat) : Int) (c : Int) j), rfl, fl, _, _, rfl, rfl, h5, ?_, ?_⟩
        · rw [List.length_map, List.length_map, List.length_range]
          exact small1000 (by omega)
        · refine ⟨_, rfl, fun bb o e => ?_, ?_⟩
          · rw [upd_ne (ne_of_none e nfl)]
            exact s5 _ _ (s4 _ _ e)
          · rw [upd_same, List.range_succ, List.map_append, List.map_append]
            rfl
      · rintro σ H4 ⟨v10, rfl, s4, hfl⟩
        rw [told_all] at hfl
        obtain ⟨z0, hz0⟩ : ∃ z, (restsP pp c)[0]? = some z := ⟨_, List.getElem?_eq_getElem len⟩
        have h0 : (restsP pp c).headD 0 = z0 := by
          rw [List.headD_eq_head?_getD, List.head?_eq_getElem?, hz0]
          rfl
        have hl4 := s4 _ _ hl3
        refine ⟨.ref fl, rfl, .ref l, rfl, l, rfl, ⟨_, SqL.of hl4⟩, fun D nD => ?_⟩
        refine lc_v (walk_list (K := K) (a := l) (xs := (restsP pp c).map V.int)) (fun H5 sm => SqL.of (sm _ _ hl4)) (fun j _ l' => l' = (((restsP pp c).take j).map fun x => ((c * B0 : Nat) : Int) + x).map V.int) (fun _ => rfl) (fun j _ l' hj h => ?_) (fun _ _ _ _ _ h => h) nD ?_ ?_
        · rw [h, List.length_map, List.length_map, List.length_take]
          omega
        · rintro j x H5 H6 l' Qy Qn hj sm hl' ⟨rfl, hx⟩ qy _
          obtain ⟨z, ez, rfl⟩ : ∃ z, (restsP pp c)[j]? = some z ∧ x = .int z := by
            rw [List.getElem?_map] at hx
            cases e : (restsP pp c)[j]? with
            | none =>
              rw [e] at hx
              cases hx
            | some z =>
              rw [e] at hx
              exact ⟨z, rfl, (Option.some.inj hx).symm⟩
          refine ⟨rfl, yes_kept ?_⟩
          refine ⟨.int ((c * B0 : Nat) : Int), rfl, .int z, rfl, _, _, rfl, rfl, qy _ _ (Same.refl _) ?_⟩
          rw [hl', List.take_add_one, ez, List.map_append, List.map_append]
          rfl
        · intro H5 l' s5 hl' hD
          have tk : (restsP pp c).take ((restsP pp c).map V.int).length = restsP pp c := List.take_of_length_le (by rw [List.length_map]; exact Nat.le_refl _)
          rw [tk] at hl'
          rw [hl'] at hD
          have hl5 := s5 _ _ hl4
          refine ⟨.int ((c * B0 : Nat) : Int), rfl, .int (c : Nat), rfl, _, _, rfl, rfl, .ref l, rfl, l, _, _, .int z0, rfl, rfl, SqL.of hl5, atI_nat (j := 0) (by rw [List.getElem?_map, hz0]; rfl), _, _, rfl, rfl, (by show 1 ≤ sizeLine; decide), fun l6 nl6 => ?_⟩
          have s6 := same_new (o := .lst [.int (((c * B0 : Nat) : Int) + (c : Nat) + z0)]) nl6
          refine ⟨D, l6, _, _, rfl, rfl, s6 _ _ hD, upd_same, ?_, fun pz npz => ?_⟩
          · rw [List.length_map, List.length_map]
            show (restsP pp c).length + 1 ≤ sizeLine
            exact Nat.le_of_lt (small1000 (by omega))
          · have s7 := same_new (o := .lst ((((restsP pp c).map fun x => ((c * B0 : Nat) : Int) + x).map V.int) ++ [.int (((c * B0 : Nat) : Int) + (c : Nat) + z0)])) npz
            have s67 := s5.trans (s6.trans s7)
            have eL : ((restsP pp c).map fun x => ((c * B0 : Nat) : Int) + x).map V.int ++ [V.int (((c * B0 : Nat) : Int) + (c : Nat) + z0)] = ((restsP pp c).map (fun x => ((c * B0 : Nat) : Int) + x) ++ [((c * B0 : Nat) : Int) + (c : Int) + (restsP pp c).headD 0]).map V.int := by
              rw [List.map_append, h0]
              rfl
            refine ⟨_, _, dp_ints (SqL.of (s67 _ _ hfl)), dp_ints (ns := (restsP pp c).map (fun x => ((c * B0 : Nat) : Int) + x) ++ [((c * B0 : Nat) : Int) + (c : Int) + (restsP pp c).headD 0]) (SqL.of (by rw [upd_same]; exact congrArg (fun x => some (HO.lst x)) eL)), shaped_ints _, shaped_ints _, ?_⟩
            refine qbl (SeqAt.eqv_refl _ (SeqAt.canLay_of_shaped (shaped_ints _))) (q _ (kp03.trans (Kept.of (s4.trans s67))) (fe3.same (s4.trans s67)))
end
end K05
set_option Elab.async false
set_option linter.all false
set_option maxRecDepth 100000
set_option maxHeartbeats 4000000
set_option exponentiation.threshold 400
/-! The law itself. -/
namespace K05
open PySem PySem.Spec PyProof.Rows L2 Bp
theorem goL_goL {b : BandL} {s : PlaceL} (h : s ∈ rangeP b b.long) (m n : Int) : goL b (goL b s m) n = goL b s (m + n) := by
  obtain ⟨h1, h2⟩ := mem_rangeP.mp h
  have L0 : (b.long : Int) ≠ 0 := by omega
  have n1 := Int.emod_nonneg ((s.at_ : Int) + b.pace * m) L0
  refine PlaceL.ext rfl ?_
  show ((((((s.at_ : Int) + b.pace * m) % (b.long : Int)).toNat : Int) + b.pace * n) % (b.long : Int)).toNat = (((s.at_ : Int) + b.pace * (m + n)) % (b.long : Int)).toNat
  rw [Int.toNat_of_nonneg n1, Int.emod_add_emod, Int.mul_add, Int.add_assoc]
section
variable {P : Program} {w : World} {K : PySem.W.Frag} {mg : Str → Option Value} {base : Heap} {CW CB CP : Addr}
abbrev NsW : List Str := ["_law_script", "_law_feed_here", "_law_turn", "_law_raw_here", "_law_work", "_law_number", "_law_side", "_law_again", "_law_place", "_law_one", "_law_other"]
theorem scLaw : FnScope NsW ["_law_script"] (defScope s_law) := ⟨rfl, rfl, rfl, by decide +kernel, rfl, by decide +kernel, by decide +kernel⟩
def spLaw (K : PySem.W.Frag) : Sp := fun vs H Q _ => ∃ (a : Addr) (ns : List Int), vs = [.ref a] ∧ SqL K H a (ns.map V.int) ∧ ns.length ≤ 1000 ∧ ∀ H', Q (.bl true) H'
theorem ok_law {k : Nat} (B : Blt mg) (h : Hands P w K mg base CW CB CP k) (DF : Def P w K mg base CX0 k "_law_feed" s_law_feed ["_law_script"] (spFeed K)) (DR : Def P w K mg base CX0 k "_law_raw" s_law_raw ["_law_feed_here", "_law_sizes"] (sp_raw K))
    (DM : Def P w K mg base CX0 k "_law_made" s_law_made ["_law_raw_here"] (sp_made CW CB CP)) (DA : Def P w K mg base CX0 k "_law_adds_up" s_law_adds_up ["_law_feed_here", "_law_raw_here", "_law_work", "_law_number", "_law_side"] (sp_adds K CW CB CP))
    (DC : Def P w K mg base CX0 k "_law_comes_again" s_law_comes_again ["_law_feed_here", "_law_work", "_law_number", "_law_side", "_law_place"] (sp_again K CW CB CP))
    {f : Addr} {fd : FuncData} (F : Fun K "law" "law" s_law f fd) : FnOk P w K mg base CX0 (k + 1) f fd ["_law_script"] (spLaw K) := by
  obtain ⟨fF, fdF, FF, bF, gF, GF⟩ := DF.ex
  obtain ⟨fW, fdW, FW, bW, gW, GW⟩ := DR.ex
  obtain ⟨fM, fdM, FM, bM, gM, GM⟩ := DM.ex
  obtain ⟨fA, fdA, FA, bA, gA, GA⟩ := DA.ex
  obtain ⟨fC, fdC, FC, bC, gC, GC⟩ := DC.ex
  obtain ⟨fP, fdP, FP, bP, gP, GP⟩ := h.pick.ex
  obtain ⟨fR, fdR, FR, bR, gR, GR⟩ := h.far.ex
  obtain ⟨fH, fdH, FH, bH, gH, GH⟩ := h.where_.ex
  refine F.ok scLaw (fun vs H Q E h => ?_) (fun cdv A outer sh H vs Q E hr h => ?_)
  · obtain ⟨a, ns, rfl, _⟩ := h
    rfl
  · obtain ⟨a, ns, rfl, hS, few, q⟩ := h
    have hu := hu_of hr
    have hu64 : A.units + 3 + 64 < cLine := hr.units
    refine ⟨_, pss_cons (ps_set (i := 1) scLaw.nd rfl (.inl rfl) (pe_call GF hr rfl gF FF.kp bF .nil pass0 (pa_cons (pv 0) pa_nil)))
      (pss_cons (ps_for PassesOwn.never rfl (pi_range1 (by rfl) B.rng (pa_cons pe_int pa_nil)) (pg_name (i := 2) scLaw.nd rfl (Or.inl rfl))
        (pss_cons (ps_set (i := 3) scLaw.nd rfl (.inl rfl) (pe_call GW hr rfl gW FW.kp bW .nil pass0 (pa_cons (pv 1) (pa_cons (pe_tup (pa_cons pe_int (pa_cons pe_int (pa_cons pe_int (pa_cons pe_int (pa_cons pe_int pa_nil)))))) pa_nil))))
        (pss_cons (ps_set (i := 4) scLaw.nd rfl (.inl rfl) (pe_call GM hr rfl gM FM.kp bM .nil pass0 (pa_cons (pv 3) pa_nil)))
        (pss_cons (ps_for PassesOwn.never rfl (pi_range1 (by rfl) B.rng (pa_cons (pe_callB call_len (by rfl) B.len PySem.boot_len (pa_cons (pe_dget hu (pv 3) pe_str (fun _ _ => rfl)) pa_nil)) pa_nil)) (pg_name (i := 5) scLaw.nd rfl (Or.inl rfl))
          (pss_one (ps_for PassesOwn.never rfl (pi_tup (pe_tup (pa_cons pe_str (pa_cons pe_str pa_nil)))) (pg_name (i := 6) scLaw.nd rfl (Or.inl rfl))
            (pss_cons (ps_if (pt_not (pt_val (pe_call GA hr rfl gA FA.kp bA .nil pass0 (pa_cons (pv 1) (pa_cons (pv 3) (pa_cons (pv 4) (pa_cons (pv 5) (pa_cons (pv 6) pa_nil)))))))) (pss_one (ps_ret pe_bl)) pss_nil)
            (pss_one (ps_if (pt_not (pt_val (pe_call GC hr rfl gC FC.kp bC .nil pass0 (pa_cons (pv 1) (pa_cons (pv 4) (pa_cons (pv 5) (pa_cons (pv 6) (pa_cons (pe_call GP hr rfl gP FP.kp bP .nil pass0 (pa_cons (pv 1) (pa_cons (pe_dget hu (pv 3) pe_str (fun _ _ => rfl)) pa_nil))) pa_nil)))))))) (pss_one (ps_ret pe_bl)) pss_nil))))))
        (pss_one (ps_for PassesOwn.never rfl (pi_range1 (by rfl) B.rng (pa_cons pe_int pa_nil)) (pg_name (i := 7) scLaw.nd rfl (Or.inl rfl))
          (pss_cons (ps_par3 (i := 8) (j := 9) (l := 10) rfl scLaw.nd rfl rfl rfl (by decide) (by decide) (by decide) rfl rfl rfl (pa_cons (pe_call GP hr rfl gP FP.kp bP .nil pass0 (pa_cons (pv 1) (pa_cons (pe_dget hu (pv 3) pe_str (fun _ _ => rfl)) pa_nil)))
            (pa_cons (pe_call GR hr rfl gR FR.kp bR .nil pass0 (pa_cons (pv 1) pa_nil)) (pa_cons (pe_call GR hr rfl gR FR.kp bR .nil pass0 (pa_cons (pv 1) pa_nil)) pa_nil))) (by rfl))
          (pss_one (ps_if (pt_cmpR (op_neD hu64) (pe_call GH hr rfl gH FH.kp bH .nil pass0 (pa_cons (pv 4) (pa_cons (pe_call GH hr rfl gH FH.kp bH .nil pass0 (pa_cons (pv 4) (pa_cons (pv 8) (pa_cons (pv 9) pa_nil)))) (pa_cons (pe_op op_sub pe_int (pv 10)) pa_nil))))
            (pe_call GH hr rfl gH FH.kp bH .nil pass0 (pa_cons (pv 4) (pa_cons (pv 8) (pa_cons (pe_op op_sub (pv 9) (pv 10)) pa_nil)))) (nomark _)) (pss_one (ps_ret pe_bl)) pss_nil)))))))))
      (pss_one (ps_ret pe_bl))), ?_⟩
    refine ⟨.ref a, rfl, a, ns, rfl, hS, few, fun H0 g ng fe0 sm0 => ?_⟩
    refine ⟨3, rfl, by decide, by decide, ?_⟩
    have e3 : (3 : Int).toNat = 3 := rfl
    rw [e3]
    refine for_it (walk_range (lo := 0) (n := 3)) (fun i σ H1 => ∃ v2 v3 v4 v5 v6 v7 v8 v9 v10 : Option V, σ = [some (.ref a), some (.ref g.f), v2, v3, v4, v5, v6, v7, v8, v9, v10] ∧ FeedAt K H1 g (2000 * i)) ⟨none, none, none, none, none, none, none, none, none, rfl, fe0⟩ (fun _ _ _ _ _ => trivial) ?_ ?_
    · rintro i x σ H1 H1' hi ⟨v2, v3, v4, v5, v6, v7, v8, v9, v10, rfl, fe1⟩ ⟨rfl, rfl⟩
      refine ⟨.ref g.f, rfl, (by show 5 ≤ sizeLine; decide), fun tz ntz => ?_⟩
      have sz := same_new (o := .tup [.int 2, .int 2, .int 12, .int 2, .int 6]) ntz
      refine ⟨g, tz, 2, 2, 12, 2, 6, 2000 * i, rfl, upd_same, ⟨⟨by decide, by decide⟩, ⟨by decide, by decide⟩, ⟨by decide, by decide⟩, by decide, ⟨by decide, by decide⟩⟩, fe1.same sz, by omega, fun k rd H2 ok nrd ir fe2 kp2 => ?_⟩
      have rdf : rd ≠ g.f := (fe1.same sz).ne nrd
      refine ⟨.ref rd, rfl, rd, k, rfl, ir, ok, fun p H3 s3 iw => ?_⟩
      have S3 : Scene K CW CB CP g p rd k (2000 * i + 400) H3 := ⟨iw, ir.same s3, rdf, fe2.same s3⟩
      have p8 := ok.few
      have plen : k.places.length ≤ 40 := by
        show (placesL k.bands).length ≤ 40
        rw [placesL_len]
        exact ok.bs.all
      have ppos : 0 < k.places.length := by
        show 0 < (placesL k.bands).length
        rw [placesL_len]
        have lo := ok.bs.lo
        cases hbs : k.bands with
        | nil =>
          rw [hbs] at lo
          exact absurd lo (by decide)
        | cons b bs =>
          have := (ok.bs.each b (by rw [hbs]; exact List.mem_cons_self ..)).lo
          rw [List.map_cons, List.sum_cons]
          omega
      -- a place is picked
      have pickPlace : ∀ {H4 : Hp} {n : Nat}, Scene K CW CB CP g p rd k n H4 → ∃ (lq : Addr) (qs : List V), DGet H4 rd (.str "places") (some (.ref lq)) ∧ H4 lq = some (.lst qs) ∧ 0 < qs.length ∧ qs.length ≤ 1000 ∧
          ∀ x H5, x ∈ qs → FeedAt K H5 g (n + 1) → Kept g.f H4 H5 → ∃ tp s, x = .ref tp ∧ IsPlace H5 tp s ∧ s ∈ k.places ∧ Scene K CW CB CP g p rd k (n + 1) H5 := fun {H4 n} S4 => by
        obtain ⟨lb, lp, lq, l, m, qs, hrd, hlb, eb, hlp, ep, hlq, el⟩ := id S4.ir
        have hraw : H4 rd = some (.dK (rawKvs k.signs lb lp lq)) := hrd
        refine ⟨lq, qs, get_places hraw, hlq, by rw [el.1]; exact ppos, by rw [el.1]; exact Nat.le_trans plen (by decide), fun x H5 hx fe5 kp5 => ?_⟩
        obtain ⟨j, hj⟩ := List.mem_iff_getElem?.mp hx
        obtain ⟨s, es, tp, rfl, htp⟩ := (el.imp (RPlace.kt (Kd.kept S4.fe kp5).kt)).at_ hj
        exact ⟨tp, s, rfl, htp, List.mem_of_getElem? es, S4.draw kp5 fe5⟩
      obtain ⟨lb, lp, lq, l, m, qs, hrd, hlb, eb, hlp, ep, hlq, el⟩ := id S3.ir
      have hraw : H3 rd = some (.dK (rawKvs k.signs lb lp lq)) := hrd
      refine ⟨.ref rd, rfl, rd, _, rfl, get_presses hraw, .ref lp, m.length, rfl, .inl ⟨_, SqL.of hlp, rfl⟩, (m.length : Int), rfl, by omega, by rw [ep.1]; omega, ?_⟩
      rw [Int.toNat_natCast, ep.1]
      refine for_it (walk_range (lo := 0) (n := k.presses.length)) (fun j σ H4 => ∃ v5 v6 : Option V, σ = [some (.ref a), some (.ref g.f), some (.int (0 + (i : Int))), some (.ref rd), some (.ref p), v5, v6, v7, v8, v9, v10] ∧ Scene K CW CB CP g p rd k (2000 * i + 400 + 80 * j) H4) ⟨v5, v6, rfl, S3⟩ (fun _ _ _ _ _ => trivial) ?_ ?_
      · rintro j x σ H4 H4' hj ⟨v5, v6, rfl, S4⟩ ⟨rfl, rfl⟩
        have er : k.presses[j]? = some k.presses[j] := List.getElem?_eq_getElem hj
        refine ⟨(by show 2 ≤ sizeLine; decide), fun ts nts => ?_⟩
        have sts := same_new (o := .tup [.str "above", .str "below"]) nts
        have hts : (upd H4' ts (.tup [.str "above", .str "below"])) ts = some (.tup [.str "above", .str "below"]) := upd_same
        refine ⟨ts, rfl, ⟨_, SqT.of hts⟩, ?_⟩
        have tsf : ts ≠ g.f := S4.fe.ne nts
        refine for_it (walk_tup (K := K) (a := ts) (xs := [.str "above", .str "below"])) (fun e σ H5 => ∃ v6 : Option V, σ = [some (.ref a), some (.ref g.f), some (.int (0 + (i : Int))), some (.ref rd), some (.ref p), some (.int (0 + (j : Int))), v6, v7, v8, v9, v10] ∧ Scene K CW CB CP g p rd k (2000 * i + 400 + 80 * j + 40 * e) H5 ∧ H5 ts = some (.tup [.str "above", .str "below"])) ⟨v6, rfl, S4.same sts, hts⟩ (fun e σ H5 _ z => by obtain ⟨_, _, _, z⟩ := z; exact SqT.of z) ?_ ?_
        · rintro e y σ H5 H5' he ⟨v6, rfl, S5, hts5⟩ ⟨rfl, hy⟩
          have e2 : e < 2 := he
          obtain ⟨up, rfl⟩ : ∃ up, y = .str (sideT up) := by
            match e, hy with
            | 0, hy => exact ⟨true, (Option.some.inj hy).symm⟩
            | 1, hy => exact ⟨false, (Option.some.inj hy).symm⟩
            | e + 2, hy => omega
          have zj : (0 : Int) + (j : Int) = (j : Int) := Int.zero_add _
          refine ⟨.ref g.f, rfl, .ref rd, rfl, .ref p, rfl, .int (0 + (j : Int)), rfl, .str (sideT up), rfl, g, rd, p, k, j, _, up, 2000 * i + 400 + 80 * j + 40 * e, by rw [zj]; rfl, S5, ok, er, by omega, fun H6 kp6 fe6 => ?_⟩
          refine ⟨true, rfl, noOf rfl ?_⟩
          have S6 := S5.draw kp6 fe6
          have hts6 := kp6 _ _ tsf hts5
          obtain ⟨lq6, qs6, gq6, hq6, q60, q61, sp6⟩ := pickPlace S6
          refine ⟨.ref g.f, rfl, .ref p, rfl, .int (0 + (j : Int)), rfl, .str (sideT up), rfl, .ref g.f, rfl, .ref rd, rfl, rd, _, rfl, gq6, g, .ref lq6, _, rfl, S6.fe, by omega, .inr ⟨lq6, qs6, rfl, SqL.of hq6, q60, q61, fun x7 H7 hx7 fe7 kp7 => ?_⟩⟩
          obtain ⟨tp, s, rfl, itp, hs, S7⟩ := sp6 x7 H7 hx7 fe7 kp7
          refine ⟨g, p, tp, k, j, _, up, s, _, by rw [zj]; rfl, S7.iw, ok, er, itp, hs, S7.fe, by omega, fun H8 kp8 fe8 => ⟨true, rfl, noOf rfl ?_⟩⟩
          exact ⟨_, rfl, (S7.draw kp8 fe8).le (by omega), kp8 _ _ tsf (kp7 _ _ tsf hts6)⟩
        · rintro σ H5 ⟨v6, rfl, S5, hts5⟩
          exact ⟨_, _, rfl, S5.le (by show 2000 * i + 400 + 80 * j + 40 * 2 ≤ 2000 * i + 400 + 80 * (j + 1); omega)⟩
      · rintro σ H4 ⟨v5, v6, rfl, S4⟩
        refine ⟨3, rfl, by decide, by decide, ?_⟩
        rw [e3]
        refine for_it (walk_range (lo := 0) (n := 3)) (fun j σ H5 => ∃ v7 v8 v9 v10 : Option V, σ = [some (.ref a), some (.ref g.f), some (.int (0 + (i : Int))), some (.ref rd), some (.ref p), v5, v6, v7, v8, v9, v10] ∧ Scene K CW CB CP g p rd k (2000 * i + 400 + 80 * 8 + 11 * j) H5) ⟨v7, v8, v9, v10, rfl, S4.le (by omega)⟩ (fun _ _ _ _ _ => trivial) ?_ ?_
        · rintro j x σ H5 H5' hj ⟨v7, v8, v9, v10, rfl, S5⟩ ⟨rfl, rfl⟩
          obtain ⟨lq6, qs6, gq6, hq6, q60, q61, sp6⟩ := pickPlace S5
          refine ⟨.ref g.f, rfl, .ref rd, rfl, rd, _, rfl, gq6, g, .ref lq6, _, rfl, S5.fe, by omega, .inr ⟨lq6, qs6, rfl, SqL.of hq6, q60, q61, fun x7 H7 hx7 fe7 kp7 => ?_⟩⟩
          obtain ⟨tp, s, rfl, itp, hs, S7⟩ := sp6 x7 H7 hx7 fe7 kp7
          refine ⟨.ref g.f, rfl, g, _, rfl, S7.fe, by omega, fun one H8 o0 o1 fe8 kp8 => ?_⟩
          refine ⟨.ref g.f, rfl, g, _, rfl, fe8, by omega, fun other H9 p0 p1 fe9 kp9 => ?_⟩
          have S9 := S7.draw (kp8.trans kp9) fe9
          have itp9 : IsPlace H9 tp s := (Kd.kept S7.fe (kp8.trans kp9)) _ _ (by intro xs z; cases z) itp
          refine ⟨_, _, _, rfl, ?_⟩
          obtain ⟨bo1, bo2⟩ := bandOf_mem (show s ∈ placesL k.bands from hs)
          have inb := place_in_band ok.bs.nd hs bo1 bo2
          generalize bandOf k.bands s = b at *
          have inP : ∀ z : Int, goL b s z ∈ k.places := fun z => List.mem_flatMap.mpr ⟨b, bo1, goL_mem inb z⟩
          have low : Low (goL b s (one - other)).name := (places_low ok.bs.each _ hs).low
          refine ⟨.ref p, rfl, .ref p, rfl, .ref tp, rfl, .int one, rfl, p, tp, k, s, b, one, rfl, S9.iw, ok.bs, itp9, hs, bo1, bo2, fun r1 HA sA hr1 => ?_⟩
          refine ⟨.int other, rfl, 0, other, rfl, rfl, p, r1, k, goL b s one, b, 0 - other, rfl, S9.iw.same sA, ok.bs, hr1, inP one, bo1, bo2, fun r2 HB sB hr2 => ?_⟩
          rw [goL_goL inb, show one + (0 - other) = one - other by omega] at hr2
          refine ⟨.ref p, rfl, .ref tp, rfl, .int one, rfl, .int other, rfl, one, other, rfl, rfl, p, tp, k, s, b, one - other, rfl, S9.iw.same (sA.trans sB), ok.bs, sB _ _ (sA _ _ itp9), hs, bo1, bo2, fun r3 HC sC hr3 => ?_⟩
          refine ⟨_, _, dp_place (show IsPlace HC r2 _ from sC _ _ hr2), dp_place hr3, shaped_place low, shaped_place low, _, rfl, noOf (by rw [SeqAt.eqv_refl _ (lay_place low)]; rfl) ?_⟩
          exact ⟨_, _, _, _, rfl, (S9.same (sA.trans (sB.trans sC))).le (by omega)⟩
        · rintro σ H5 ⟨v7, v8, v9, v10, rfl, S5⟩
          exact ⟨_, _, _, _, _, _, _, _, _, rfl, S5.fe.le (by show 2000 * i + 400 + 80 * 8 + 11 * 3 ≤ 2000 * (i + 1); omega)⟩
    · rintro σ H1 ⟨v2, v3, v4, v5, v6, v7, v8, v9, v10, rfl, fe1⟩
      exact q H1
end
end K05
set_option Elab.async false
set_option linter.all false
set_option maxRecDepth 100000
set_option maxHeartbeats 4000000
set_option exponentiation.threshold 400
/-! What the top has written. -/
namespace K05
open PySem PySem.Spec PyProof.Rows L2 Bp
/-- a def of the text stands at the top -/
structure Is (K : PySem.W.Frag) (x : Str) (st : Stmt) : Prop where
  ex : ∃ (f : Addr) (fd : FuncData), PySem.W.nsIn K mainGlobals x = some (some (.ref f)) ∧ Fun K x x st f fd
theorem is_mk {K : PySem.W.Frag} {x : Str} {st : Stmt} {f : Addr} {oc : Value} {od an : Option Addr} {osl : Array (Option Value)} {kV doc pm cdv ct : Value} (a : PySem.W.nsIn K mainGlobals x = some (some (.ref f)))
    (l : K.lookup f = some ⟨oc, od, .func (PySem.W.fnOf x x (defArgs st) (defBody st) (defScope st) .none kV doc pm an cdv ct), osl⟩) (c : PySem.W.codeIn K cdv x = true) (k : PySem.W.keepIn K (.ref f) = true) : Is K x st := ⟨⟨f, _, a, fun_mk l c k⟩⟩
/-- .. one with a keyword that has a worth -/
structure IsK (K : PySem.W.Frag) (x : Str) (st : Stmt) (kw : Str) (v : V) : Prop where
  ex : ∃ (f : Addr) (fd : FuncData), PySem.W.nsIn K mainGlobals x = some (some (.ref f)) ∧ FD K x x st [] [(kw, v)] f fd
theorem fd_kw {K : PySem.W.Frag} {x qual kw : Str} {st : Stmt} {v : V} {u : Value} {f D : Addr} {oc : Value} {od an : Option Addr} {osl : Array (Option Value)} {doc pm cdv ct : Value} (r : RelV v u)
    (l : K.lookup f = some ⟨oc, od, .func (PySem.W.fnOf x qual (defArgs st) (defBody st) (defScope st) .none (.ref D) doc pm an cdv ct), osl⟩) (n : PySem.W.nsIn K D kw = some (some u)) (c : PySem.W.codeIn K cdv qual = true) (k : PySem.W.keepIn K (.ref f) = true) :
    FD K x qual st [] [(kw, v)] f (PySem.W.fnOf x qual (defArgs st) (defBody st) (defScope st) .none (.ref D) doc pm an cdv ct) :=
  ⟨⟨oc, od, .none, .ref D, doc, pm, an, cdv, ct, osl, rfl, l, c, .inl ⟨rfl, rfl⟩, .inr ⟨D, rfl, fun q hq => by
    rw [List.mem_singleton.mp hq]
    exact ⟨u, n, r⟩⟩⟩, k⟩
theorem isK_int {K : PySem.W.Frag} {x kw : Str} {st : Stmt} {z : Int} {t : Tok} {f D : Addr} {oc : Value} {od an : Option Addr} {osl : Array (Option Value)} {doc pm cdv ct : Value} (a : PySem.W.nsIn K mainGlobals x = some (some (.ref f)))
    (l : K.lookup f = some ⟨oc, od, .func (PySem.W.fnOf x x (defArgs st) (defBody st) (defScope st) .none (.ref D) doc pm an cdv ct), osl⟩) (n : PySem.W.nsIn K D kw = some (some (.int z t))) (c : PySem.W.codeIn K cdv x = true) (k : PySem.W.keepIn K (.ref f) = true) : IsK K x st kw (.int z) := ⟨⟨f, _, a, fd_kw ⟨t, rfl⟩ l n c k⟩⟩
/-- a method -/
structure IsM (K : PySem.W.Frag) (C : Addr) (m qual : Str) (st : Stmt) : Prop where
  ex : ∃ (f : Addr) (fd : FuncData), Meth K C m f ∧ Fun K m qual st f fd
theorem isM_mk {K : PySem.W.Frag} {C : Addr} {m qual : Str} {st : Stmt} {f : Addr} {oc : Value} {od an : Option Addr} {osl : Array (Option Value)} {kV doc pm cdv ct : Value} (a : PySem.W.findIn K (.ref C) m = some (some (.ref f))) (i : PySem.W.isFn K (.ref f) = true)
    (l : K.lookup f = some ⟨oc, od, .func (PySem.W.fnOf m qual (defArgs st) (defBody st) (defScope st) .none kV doc pm an cdv ct), osl⟩) (c : PySem.W.codeIn K cdv qual = true) (k : PySem.W.keepIn K (.ref f) = true) : IsM K C m qual st := ⟨⟨f, _, ⟨a, i, k⟩, fun_mk l c k⟩⟩
/-- a class of the text -/
structure IsC (K : PySem.W.Frag) (C : Addr) : Prop where
  cl : Cls K C
  isi : IsiTxt K C
  makes : PySem.W.makesIn K C = true
  kp : PySem.W.keepIn K (.ref C) = true
theorem isC_mk {K : PySem.W.Frag} {C : Addr} (pg : PySem.W.plainGet K C Str.empty = true) (hd : PySem.W.hasDictIn K C = true) (po : PySem.W.plainOver K C = true) (sa : PySem.W.findIn K (.ref C) "__setattr__" = some (some (.builtin "object.__setattr__"))) (mk : PySem.W.makesIn K C = true) (kc : PySem.W.keepIn K (.ref C) = true)
    (ha : PySem.W.findIn K (.ref C) "__class__" = some (some (.builtin "object.__class__"))) (hn : PySem.W.specialIn K (.builtin "object.__class__") "__get__" = some (some (.builtin "getset_descriptor.__get__"))) (htk : PySem.W.takesIn K (.builtin "object.__class__") = some true)
    (hm : PySem.W.mroIn K C (.type "object") = some true) : IsC K C := ⟨⟨pg, hd, po, sa⟩, ⟨ha, hn, htk, hm, if_pos (beq_self_eq_true _)⟩, mk, kc⟩
/-- Band -/
structure BandF (K : PySem.W.Frag) : Prop where
  ex : ∃ (C fI : Addr) (fdI : FuncData), PySem.W.nsIn K mainGlobals "Band" = some (some (.ref C)) ∧ IsC K C ∧ NoAttr K C "_name" ∧ NoAttr K C "_long" ∧ NoAttr K C "_pace" ∧ PySem.W.findIn K (.ref C) "__init__" = some (some (.ref fI)) ∧ PySem.W.isFn K (.ref fI) = true ∧
    FD K "__init__" "Band.__init__" s_Band_init [] [("pace", .int 0)] fI fdI ∧ IsM K C "called" "Band.called" s_Band_called ∧ IsM K C "long" "Band.long" s_Band_long ∧ IsM K C "pace" "Band.pace" s_Band_pace
theorem bandF_mk {K : PySem.W.Frag} {C fI D : Addr} {oc : Value} {od an : Option Addr} {osl : Array (Option Value)} {doc pm cdv ct : Value} {t : Tok} (aC : PySem.W.nsIn K mainGlobals "Band" = some (some (.ref C))) (iC : IsC K C) (n1 : PySem.W.findIn K (.ref C) "_name" = some none) (n2 : PySem.W.findIn K (.ref C) "_long" = some none) (n3 : PySem.W.findIn K (.ref C) "_pace" = some none)
    (a : PySem.W.findIn K (.ref C) "__init__" = some (some (.ref fI))) (i : PySem.W.isFn K (.ref fI) = true) (l : K.lookup fI = some ⟨oc, od, .func (PySem.W.fnOf "__init__" "Band.__init__" (defArgs s_Band_init) (defBody s_Band_init) (defScope s_Band_init) .none (.ref D) doc pm an cdv ct), osl⟩)
    (n : PySem.W.nsIn K D "pace" = some (some (.int 0 t))) (c : PySem.W.codeIn K cdv "Band.__init__" = true) (k : PySem.W.keepIn K (.ref fI) = true) (m1 : IsM K C "called" "Band.called" s_Band_called) (m2 : IsM K C "long" "Band.long" s_Band_long) (m3 : IsM K C "pace" "Band.pace" s_Band_pace) : BandF K :=
  ⟨⟨C, fI, _, aC, iC, n1, n2, n3, a, i, fd_kw ⟨t, rfl⟩ l n c k, m1, m2, m3⟩⟩
/-- Press -/
structure PressF (K : PySem.W.Frag) : Prop where
  ex : ∃ (C fI : Addr) (fdI : FuncData), PySem.W.nsIn K mainGlobals "Press" = some (some (.ref C)) ∧ IsC K C ∧ (NoAttr K C "_above" ∧ NoAttr K C "_below" ∧ NoAttr K C "_table" ∧ NoAttr K C "_rhythm") ∧ PySem.W.findIn K (.ref C) "__init__" = some (some (.ref fI)) ∧ PySem.W.isFn K (.ref fI) = true ∧
    FD K "__init__" "Press.__init__" s_Press_init [] [("rhythm", .str "x")] fI fdI ∧ IsM K C "above" "Press.above" s_Press_above ∧ IsM K C "below" "Press.below" s_Press_below ∧ IsM K C "table" "Press.table" s_Press_table ∧ IsM K C "rhythm" "Press.rhythm" s_Press_rhythm
theorem pressF_mk {K : PySem.W.Frag} {C fI D : Addr} {oc : Value} {od an : Option Addr} {osl : Array (Option Value)} {doc pm cdv ct : Value} {t : Tok} (aC : PySem.W.nsIn K mainGlobals "Press" = some (some (.ref C))) (iC : IsC K C)
    (n1 : PySem.W.findIn K (.ref C) "_above" = some none) (n2 : PySem.W.findIn K (.ref C) "_below" = some none) (n3 : PySem.W.findIn K (.ref C) "_table" = some none) (n4 : PySem.W.findIn K (.ref C) "_rhythm" = some none)
    (a : PySem.W.findIn K (.ref C) "__init__" = some (some (.ref fI))) (i : PySem.W.isFn K (.ref fI) = true) (l : K.lookup fI = some ⟨oc, od, .func (PySem.W.fnOf "__init__" "Press.__init__" (defArgs s_Press_init) (defBody s_Press_init) (defScope s_Press_init) .none (.ref D) doc pm an cdv ct), osl⟩)
    (n : PySem.W.nsIn K D "rhythm" = some (some (.str "x" t))) (c : PySem.W.codeIn K cdv "Press.__init__" = true) (k : PySem.W.keepIn K (.ref fI) = true) (m1 : IsM K C "above" "Press.above" s_Press_above) (m2 : IsM K C "below" "Press.below" s_Press_below) (m3 : IsM K C "table" "Press.table" s_Press_table) (m4 : IsM K C "rhythm" "Press.rhythm" s_Press_rhythm) : PressF K :=
  ⟨⟨C, fI, _, aC, iC, ⟨n1, n2, n3, n4⟩, a, i, fd_kw ⟨t, rfl⟩ l n c k, m1, m2, m3, m4⟩⟩
/-- Work -/
structure WorkF (K : PySem.W.Frag) : Prop where
  ex : ∃ (C fI : Addr) (fdI : FuncData) (dv : V), PySem.W.nsIn K mainGlobals "Work" = some (some (.ref C)) ∧ IsC K C ∧ (NoAttr K C "_signs" ∧ NoAttr K C "_bands" ∧ NoAttr K C "_presses" ∧ NoAttr K C "_places" ∧ NoAttr K C "_numbers") ∧ PySem.W.findIn K (.ref C) "__init__" = some (some (.ref fI)) ∧ PySem.W.isFn K (.ref fI) = true ∧
    FD K "__init__" "Work.__init__" s_Work_init [dv] [] fI fdI ∧ IsM K C "bands" "Work.bands" s_Work_bands ∧ IsM K C "presses" "Work.presses" s_Work_presses ∧ IsM K C "has_place" "Work.has_place" s_Work_has_place ∧ IsM K C "place_in" "Work.place_in" s_Work_place_in ∧ IsM K C "has_press" "Work.has_press" s_Work_has_press
theorem workF_mk {K : PySem.W.Frag} {C fI T E : Addr} {oc ocT kV : Value} {od an odT : Option Addr} {osl oslT : Array (Option Value)} {doc pm cdv ct : Value} {nT : Nat} (aC : PySem.W.nsIn K mainGlobals "Work" = some (some (.ref C))) (iC : IsC K C)
    (n1 : PySem.W.findIn K (.ref C) "_signs" = some none) (n2 : PySem.W.findIn K (.ref C) "_bands" = some none) (n3 : PySem.W.findIn K (.ref C) "_presses" = some none) (n4 : PySem.W.findIn K (.ref C) "_places" = some none) (n5 : PySem.W.findIn K (.ref C) "_numbers" = some none)
    (a : PySem.W.findIn K (.ref C) "__init__" = some (some (.ref fI))) (i : PySem.W.isFn K (.ref fI) = true) (l : K.lookup fI = some ⟨oc, od, .func (PySem.W.fnOf "__init__" "Work.__init__" (defArgs s_Work_init) (defBody s_Work_init) (defScope s_Work_init) (.ref T) kV doc pm an cdv ct), osl⟩)
    (d : K.lookup T = some ⟨ocT, odT, .seq #[.ref E] nT, oslT⟩) (c : PySem.W.codeIn K cdv "Work.__init__" = true) (k : PySem.W.keepIn K (.ref fI) = true)
    (m1 : IsM K C "bands" "Work.bands" s_Work_bands) (m2 : IsM K C "presses" "Work.presses" s_Work_presses) (m3 : IsM K C "has_place" "Work.has_place" s_Work_has_place) (m4 : IsM K C "place_in" "Work.place_in" s_Work_place_in) (m5 : IsM K C "has_press" "Work.has_press" s_Work_has_press) : WorkF K :=
  ⟨⟨C, fI, _, .ref E, aC, iC, ⟨n1, n2, n3, n4, n5⟩, a, i, ⟨⟨oc, od, .ref T, kV, doc, pm, an, cdv, ct, osl, rfl, l, c, .inr ⟨(by intro h; cases h), T, _, [.ref E], nT, rfl, d, rfl, .cons rfl .nil⟩, .inl rfl⟩, k⟩, m1, m2, m3, m4, m5⟩⟩
/-- the names -/
structure NamesF (K : PySem.W.Frag) : Prop where
  isi : PySem.W.nsIn K mainGlobals "isinstance" = some none
  int : PySem.W.nsIn K mainGlobals "int" = some none
  bool : PySem.W.nsIn K mainGlobals "bool" = some none
  str : PySem.W.nsIn K mainGlobals "str" = some none
  list : PySem.W.nsIn K mainGlobals "list" = some none
  tuple : PySem.W.nsIn K mainGlobals "tuple" = some none
  all : PySem.W.nsIn K mainGlobals "all" = some none
  len : PySem.W.nsIn K mainGlobals "len" = some none
  rng : PySem.W.nsIn K mainGlobals "range" = some none
  sum : PySem.W.nsIn K mainGlobals "sum" = some none
  set : PySem.W.nsIn K mainGlobals "set" = some none
  enu : PySem.W.nsIn K mainGlobals "enumerate" = some none
  abs : PySem.W.nsIn K mainGlobals "abs" = some none
  min : PySem.W.nsIn K mainGlobals "min" = some none
  max : PySem.W.nsIn K mainGlobals "max" = some none
  sorted : PySem.W.nsIn K mainGlobals "sorted" = some none
  divmod : PySem.W.nsIn K mainGlobals "divmod" = some none
theorem defOf {P : Program} {w : World} {K : PySem.W.Frag} {mg : Str → Option Value} {base : Heap} {CX : CXT} {k : Nat} {x : Str} {st : Stmt} {ps : List Str} {sp : Sp} {f : Addr} {fd : FuncData} (F : Fun K x x st f fd) (b : Binds K fd ps []) (g : mg x = some (.ref f)) (G : FnOk P w K mg base CX k f fd ps sp) : Def P w K mg base CX k x st ps sp := ⟨⟨f, fd, F, b, g, G⟩⟩
end K05
set_option Elab.async false
set_option linter.all false
set_option maxRecDepth 100000
set_option maxHeartbeats 4000000
set_option exponentiation.threshold 400
/-! All together. -/
namespace K05
open PySem PySem.Spec PyProof.Rows L2 Bp
theorem all_mk {l : PySem.W.OpenLaw} {w : World} {K : PySem.W.Frag} {h : Heap} {mg : Str → Option Value} {fa : Addr} {t1 t2 t3 t4 t5 t6 t7 : Tok} (X : K.In h) (G : h.Ns mainGlobals mg) (hfa : mg "law" = some (.ref fa))
    (N : NamesF K) (zF : PySem.W.nsIn K mainGlobals "_FASTEST" = some (some (.int (10 ^ 12) t1))) (zA : PySem.W.nsIn K mainGlobals "_LETTERS" = some (some (.str "abcdefghijklmnopqrstuvwxyz" t2))) (zL : PySem.W.nsIn K mainGlobals "_LONGEST_BAND" = some (some (.int 12 t3))) (zR : PySem.W.nsIn K mainGlobals "_MOST_BEATS_OF_RHYTHM" = some (some (.int 6 t4)))
    (zB : PySem.W.nsIn K mainGlobals "_MOST_BANDS" = some (some (.int 6 t5))) (zP : PySem.W.nsIn K mainGlobals "_MOST_PLACES" = some (some (.int 40 t6))) (zQ : PySem.W.nsIn K mainGlobals "_MOST_PRESSES" = some (some (.int 8 t7))) (zG : PySem.W.nsIn K mainGlobals "lcm" = some (some (.builtin "math.lcm")))
    (iB : BandF K) (iP : PressF K) (iW : WorkF K)
    (jWhole : Is K "is_whole" s_is_whole) (jWithin : Is K "is_within" s_is_within) (jListed : Is K "is_listed" s_is_listed) (jLetters : Is K "are_letters" s_are_letters) (jName : Is K "is_name" s_is_name) (jSigns : Is K "are_signs" s_are_signs) (jPlace : Is K "is_place" s_is_place)
    (jLong : Is K "is_long" s_is_long) (jPace : Is K "is_pace" s_is_pace) (jSideN : Is K "is_side_number" s_is_side_number) (jSide : Is K "is_side" s_is_side) (jTable : Is K "is_table" s_is_table) (jRhythm : Is K "is_rhythm" s_is_rhythm) (jBands : Is K "are_bands" s_are_bands) (jPlaces : Is K "places_of" s_places_of)
    (jCalled : Is K "band_called" s_band_called) (jPF : Is K "is_press_for" s_is_press_for) (jPresses : Is K "are_presses" s_are_presses) (jWhere : Is K "where" s_where) (jSideOf : Is K "side_of" s_side_of) (jPasses : Is K "passes" s_passes) (jHow : Is K "how_many_passes" s_how_many_passes) (jNext : IsK K "next_pass" s_next_pass "behind" (.int 0))
    (jFeed : Is K "_law_feed" s_law_feed) (jDraw : Is K "_law_draw" s_law_draw) (jPick : Is K "_law_pick" s_law_pick) (jNames : Is K "_law_names" s_law_names) (jLSigns : Is K "_law_signs" s_law_signs) (jLTable : Is K "_law_table" s_law_table) (jRaw : Is K "_law_raw" s_law_raw) (jMade : Is K "_law_made" s_law_made) (jFar : Is K "_law_far" s_law_far)
    (jBeats : Is K "_law_beats_with" s_law_beats_with) (jAdds : Is K "_law_adds_up" s_law_adds_up) (jAgain : Is K "_law_comes_again" s_law_comes_again) (jLaw : Is K "law" s_law) :
    ∃ fd : FuncData, (∀ (s : Shared) (v : Value), BindsTo s fd ⟨[v], []⟩ [("_law_script", v)]) ∧ ∀ base : Heap, K.In base → base.Ns mainGlobals mg → FnG l.prog w K mg base CX0 11 fa fd ["_law_script"] (spLaw K) := by
  obtain ⟨CB, fIB, fdIB, aCB, cB, nB1, nB2, nB3, aIB, iIB, FIB, mB1, mB2, mB3⟩ := iB.ex
  obtain ⟨CP, fIP, fdIP, aCP, cP, ⟨nP1, nP2, nP3, nP4⟩, aIP, iIP, FIP, mP1, mP2, mP3, mP4⟩ := iP.ex
  obtain ⟨CW, fIW, fdIW, dvW, aCW, cW, ⟨nW1, nW2, nW3, nW4, nW5⟩, aIW, iIW, FIW, mW1, mW2, mW3, mW4, mW5⟩ := iW.ex
  have of : ∀ {x : Str} {v : Value}, PySem.W.nsIn K mainGlobals x = some (some v) → mg x = some v := fun {x v} e => PySem.W.mg_of X G e
  have no : ∀ {x : Str}, PySem.W.nsIn K mainGlobals x = some none → mg x = none := fun {x} e => PySem.W.mg_none_of X G e
  have B : Blt mg := ⟨no N.isi, no N.int, no N.bool, no N.str, no N.list, no N.tuple, no N.all, no N.len, no N.rng, no N.sum, no N.set, no N.enu, ⟨_, of zF⟩, ⟨_, of zA⟩⟩
  have gl : ∃ t, mg "_LONGEST_BAND" = some (.int 12 t) := ⟨_, of zL⟩
  have TB : BandTxt K mg CB := ⟨cB.cl, nB1, nB2, nB3, of aCB, gl⟩
  have TP : PressTxt K mg CP := ⟨cP.cl, nP1, nP2, nP3, nP4, of aCP⟩
  have TW : WorkTxt K mg CW := ⟨cW.cl, nW1, nW2, nW3, nW4, nW5, of aCW⟩
  obtain ⟨f1, fd1, a1, F1⟩ := jWhole.ex
  obtain ⟨f2, fd2, a2, F2⟩ := jWithin.ex
  obtain ⟨f3, fd3, a3, F3⟩ := jListed.ex
  obtain ⟨f4, fd4, a4, F4⟩ := jLetters.ex
  obtain ⟨f5, fd5, a5, F5⟩ := jName.ex
  obtain ⟨f6, fd6, a6, F6⟩ := jSigns.ex
  obtain ⟨f7, fd7, a7, F7⟩ := jPlace.ex
  obtain ⟨f8, fd8, a8, F8⟩ := jLong.ex
  obtain ⟨f9, fd9, a9, F9⟩ := jPace.ex
  obtain ⟨f10, fd10, a10, F10⟩ := jSideN.ex
  obtain ⟨f11, fd11, a11, F11⟩ := jSide.ex
  obtain ⟨f12, fd12, a12, F12⟩ := jTable.ex
  obtain ⟨f13, fd13, a13, F13⟩ := jRhythm.ex
  obtain ⟨f14, fd14, a14, F14⟩ := jBands.ex
  obtain ⟨f15, fd15, a15, F15⟩ := jPlaces.ex
  obtain ⟨f16, fd16, a16, F16⟩ := jCalled.ex
  obtain ⟨f17, fd17, a17, F17⟩ := jPF.ex
  obtain ⟨f18, fd18, a18, F18⟩ := jPresses.ex
  obtain ⟨f19, fd19, a19, F19⟩ := jWhere.ex
  obtain ⟨f20, fd20, a20, F20⟩ := jSideOf.ex
  obtain ⟨f21, fd21, a21, F21⟩ := jPasses.ex
  obtain ⟨f22, fd22, a22, F22⟩ := jHow.ex
  obtain ⟨f23, fd23, a23, F23⟩ := jNext.ex
  obtain ⟨f24, fd24, a24, F24⟩ := jFeed.ex
  obtain ⟨f25, fd25, a25, F25⟩ := jDraw.ex
  obtain ⟨f26, fd26, a26, F26⟩ := jPick.ex
  obtain ⟨f27, fd27, a27, F27⟩ := jNames.ex
  obtain ⟨f28, fd28, a28, F28⟩ := jLSigns.ex
  obtain ⟨f29, fd29, a29, F29⟩ := jLTable.ex
  obtain ⟨f30, fd30, a30, F30⟩ := jRaw.ex
  obtain ⟨f31, fd31, a31, F31⟩ := jMade.ex
  obtain ⟨f32, fd32, a32, F32⟩ := jFar.ex
  obtain ⟨f33, fd33, a33, F33⟩ := jBeats.ex
  obtain ⟨f34, fd34, a34, F34⟩ := jAdds.ex
  obtain ⟨f35, fd35, a35, F35⟩ := jAgain.ex
  obtain ⟨f36, fd36, a36, F36⟩ := jLaw.ex
  obtain ⟨e1, ed1, M1, E1⟩ := mB1.ex
  obtain ⟨e2, ed2, M2, E2⟩ := mB2.ex
  obtain ⟨e3, ed3, M3, E3⟩ := mB3.ex
  obtain ⟨e4, ed4, M4, E4⟩ := mP1.ex
  obtain ⟨e5, ed5, M5, E5⟩ := mP2.ex
  obtain ⟨e6, ed6, M6, E6⟩ := mP3.ex
  obtain ⟨e7, ed7, M7, E7⟩ := mP4.ex
  obtain ⟨e8, ed8, M8, E8⟩ := mW1.ex
  obtain ⟨e9, ed9, M9, E9⟩ := mW2.ex
  obtain ⟨e10, ed10, M10, E10⟩ := mW3.ex
  obtain ⟨e11, ed11, M11, E11⟩ := mW4.ex
  obtain ⟨e12, ed12, M12, E12⟩ := mW5.ex
  have e := hfa.symm.trans (of a36)
  cases e
  have b1 := F1.binds (ps := ["thing"]) fun _ _ _ _ _ _ us hl => match us, hl with | [_], _ => rfl
  have b2 := F2.binds (ps := ["thing", "least", "most"]) fun _ _ _ _ _ _ us hl => match us, hl with | [_, _, _], _ => rfl
  have b3 := F3.binds (ps := ["thing"]) fun _ _ _ _ _ _ us hl => match us, hl with | [_], _ => rfl
  have b4 := F4.binds (ps := ["thing"]) fun _ _ _ _ _ _ us hl => match us, hl with | [_], _ => rfl
  have b5 := F5.binds (ps := ["thing"]) fun _ _ _ _ _ _ us hl => match us, hl with | [_], _ => rfl
  have b6 := F6.binds (ps := ["thing"]) fun _ _ _ _ _ _ us hl => match us, hl with | [_], _ => rfl
  have b7 := F7.binds (ps := ["thing"]) fun _ _ _ _ _ _ us hl => match us, hl with | [_], _ => rfl
  have b8 := F8.binds (ps := ["thing"]) fun _ _ _ _ _ _ us hl => match us, hl with | [_], _ => rfl
  have b9 := F9.binds (ps := ["thing"]) fun _ _ _ _ _ _ us hl => match us, hl with | [_], _ => rfl
  have b10 := F10.binds (ps := ["thing"]) fun _ _ _ _ _ _ us hl => match us, hl with | [_], _ => rfl
  have b11 := F11.binds (ps := ["thing"]) fun _ _ _ _ _ _ us hl => match us, hl with | [_], _ => rfl
  have b12 := F12.binds (ps := ["thing"]) fun _ _ _ _ _ _ us hl => match us, hl with | [_], _ => rfl
  have b13 := F13.binds (ps := ["thing"]) fun _ _ _ _ _ _ us hl => match us, hl with | [_], _ => rfl
  have b14 := F14.binds (ps := ["thing"]) fun _ _ _ _ _ _ us hl => match us, hl with | [_], _ => rfl
  have b15 := F15.binds (ps := ["bands"]) fun _ _ _ _ _ _ us hl => match us, hl with | [_], _ => rfl
  have b16 := F16.binds (ps := ["work", "name"]) fun _ _ _ _ _ _ us hl => match us, hl with | [_, _], _ => rfl
  have b17 := F17.binds (ps := ["thing", "signs", "places"]) fun _ _ _ _ _ _ us hl => match us, hl with | [_, _, _], _ => rfl
  have b18 := F18.binds (ps := ["thing", "signs", "places"]) fun _ _ _ _ _ _ us hl => match us, hl with | [_, _, _], _ => rfl
  have b19 := F19.binds (ps := ["work", "place", "beats"]) fun _ _ _ _ _ _ us hl => match us, hl with | [_, _, _], _ => rfl
  have b20 := F20.binds (ps := ["press", "side"]) fun _ _ _ _ _ _ us hl => match us, hl with | [_, _], _ => rfl
  have b21 := F21.binds (ps := ["work", "press", "side", "place"]) fun _ _ _ _ _ _ us hl => match us, hl with | [_, _, _, _], _ => rfl
  have b24 := F24.binds (ps := ["_law_script"]) fun _ _ _ _ _ _ us hl => match us, hl with | [_], _ => rfl
  have b25 := F25.binds (ps := ["_law_feed_here", "_law_many"]) fun _ _ _ _ _ _ us hl => match us, hl with | [_, _], _ => rfl
  have b26 := F26.binds (ps := ["_law_feed_here", "_law_some"]) fun _ _ _ _ _ _ us hl => match us, hl with | [_, _], _ => rfl
  have b27 := F27.binds (ps := ["_law_feed_here", "_law_many"]) fun _ _ _ _ _ _ us hl => match us, hl with | [_, _], _ => rfl
  have b28 := F28.binds (ps := ["_law_feed_here", "_law_many"]) fun _ _ _ _ _ _ us hl => match us, hl with | [_, _], _ => rfl
  have b29 := F29.binds (ps := ["_law_feed_here", "_law_signs_here"]) fun _ _ _ _ _ _ us hl => match us, hl with | [_, _], _ => rfl
  have b30 := F30.binds (ps := ["_law_feed_here", "_law_sizes"]) fun _ _ _ _ _ _ us hl => match us, hl with | [_, _], _ => rfl
  have b31 := F31.binds (ps := ["_law_raw_here"]) fun _ _ _ _ _ _ us hl => match us, hl with | [_], _ => rfl
  have b32 := F32.binds (ps := ["_law_feed_here"]) fun _ _ _ _ _ _ us hl => match us, hl with | [_], _ => rfl
  have b33 := F33.binds (ps := ["_law_bar", "_law_last"]) fun _ _ _ _ _ _ us hl => match us, hl with | [_, _], _ => rfl
  have b34 := F34.binds (ps := ["_law_feed_here", "_law_raw_here", "_law_work", "_law_number", "_law_side"]) fun _ _ _ _ _ _ us hl => match us, hl with | [_, _, _, _, _], _ => rfl
  have b35 := F35.binds (ps := ["_law_feed_here", "_law_work", "_law_number", "_law_side", "_law_place"]) fun _ _ _ _ _ _ us hl => match us, hl with | [_, _, _, _, _], _ => rfl
  have c1 := E1.binds (ps := ["self"]) fun _ _ _ _ _ _ us hl => match us, hl with | [_], _ => rfl
  have c2 := E2.binds (ps := ["self"]) fun _ _ _ _ _ _ us hl => match us, hl with | [_], _ => rfl
  have c3 := E3.binds (ps := ["self"]) fun _ _ _ _ _ _ us hl => match us, hl with | [_], _ => rfl
  have c4 := E4.binds (ps := ["self"]) fun _ _ _ _ _ _ us hl => match us, hl with | [_], _ => rfl
  have c5 := E5.binds (ps := ["self"]) fun _ _ _ _ _ _ us hl => match us, hl with | [_], _ => rfl
  have c6 := E6.binds (ps := ["self"]) fun _ _ _ _ _ _ us hl => match us, hl with | [_], _ => rfl
  have c7 := E7.binds (ps := ["self"]) fun _ _ _ _ _ _ us hl => match us, hl with | [_], _ => rfl
  have c8 := E8.binds (ps := ["self"]) fun _ _ _ _ _ _ us hl => match us, hl with | [_], _ => rfl
  have c9 := E9.binds (ps := ["self"]) fun _ _ _ _ _ _ us hl => match us, hl with | [_], _ => rfl
  have c10 := E10.binds (ps := ["self", "thing"]) fun _ _ _ _ _ _ us hl => match us, hl with | [_, _], _ => rfl
  have c11 := E11.binds (ps := ["self", "place"]) fun _ _ _ _ _ _ us hl => match us, hl with | [_, _], _ => rfl
  have c12 := E12.binds (ps := ["self", "thing"]) fun _ _ _ _ _ _ us hl => match us, hl with | [_, _], _ => rfl
  obtain ⟨mvB, kB⟩ := kb_Band FIB
  obtain ⟨mvP, kP⟩ := kb_Press FIP
  have bW := b_Work FIW
  obtain ⟨oc, od, kV, doc, pm, an, cdv, ct, osl, rfl, lk, hcd⟩ := id F36.ex
  refine ⟨PySem.W.fnOf "law" "law" (defArgs s_law) (defBody s_law) (defScope s_law) .none kV doc pm an cdv ct, fun s v => .of_eq rfl, fun base _ _ => ?_⟩
  have Whole : ∀ k, Def l.prog w K mg base CX0 (k + 1) "is_whole" s_is_whole ["thing"] sp_is_whole := fun k => defOf F1 b1 (of a1) (ok_is_whole B F1)
  have Within : ∀ k, Def l.prog w K mg base CX0 (k + 2) "is_within" s_is_within ["thing", "least", "most"] sp_is_within := fun k => defOf F2 b2 (of a2) (ok_is_within (Whole k) F2)
  have Listed : ∀ k, Def l.prog w K mg base CX0 (k + 1) "is_listed" s_is_listed ["thing"] sp_is_listed := fun k => defOf F3 b3 (of a3) (ok_is_listed B F3)
  have Letters : ∀ k, Def l.prog w K mg base CX0 (k + 1) "are_letters" s_are_letters ["thing"] sp_are_letters := fun k => defOf F4 b4 (of a4) (ok_are_letters B F4)
  have Name : ∀ k, Def l.prog w K mg base CX0 (k + 2) "is_name" s_is_name ["thing"] sp_is_name := fun k => defOf F5 b5 (of a5) (ok_is_name B (Letters k) F5)
  have Signs : ∀ k, Def l.prog w K mg base CX0 (k + 2) "are_signs" s_are_signs ["thing"] sp_are_signs := fun k => defOf F6 b6 (of a6) (ok_are_signs B (Letters k) F6)
  have Place : ∀ k, Def l.prog w K mg base CX0 (k + 3) "is_place" s_is_place ["thing"] sp_is_place := fun k => defOf F7 b7 (of a7) (ok_is_place B (Name k) (Whole (k + 1)) F7)
  have Long : ∀ k, Def l.prog w K mg base CX0 (k + 3) "is_long" s_is_long ["thing"] sp_is_long := fun k => defOf F8 b8 (of a8) (ok_is_long gl (Within k) F8)
  have Pace : ∀ k, Def l.prog w K mg base CX0 (k + 3) "is_pace" s_is_pace ["thing"] sp_is_pace := fun k => defOf F9 b9 (of a9) (ok_is_pace B (Within k) F9)
  have SideN : ∀ k, Def l.prog w K mg base CX0 (k + 3) "is_side_number" s_is_side_number ["thing"] sp_is_side_number := fun k => defOf F10 b10 (of a10) (ok_is_side_number gl (Within k) F10)
  have Side : ∀ k, Def l.prog w K mg base CX0 (k + 4) "is_side" s_is_side ["thing"] sp_is_side := fun k => defOf F11 b11 (of a11) (ok_is_side (SideN k) (Place k) F11)
  have Table : ∀ k, Def l.prog w K mg base CX0 (k + 2) "is_table" s_is_table ["thing"] sp_is_table := fun k => defOf F12 b12 (of a12) (ok_is_table B (Letters k) F12)
  have Rhythm : ∀ k, Def l.prog w K mg base CX0 (k + 1) "is_rhythm" s_is_rhythm ["thing"] sp_is_rhythm := fun k => defOf F13 b13 (of a13) (ok_is_rhythm B ⟨_, of zR⟩ F13)
  have IB : ∀ k, FnOk l.prog w K mg base CX0 (k + 4) fIB fdIB ["self", "name", "long", "pace"] (sp_Band_init CB) := fun k => ok_Band_init TB (Name (k + 1)) (Long k) (Pace k) FIB
  have IP : ∀ k, FnOk l.prog w K mg base CX0 (k + 5) fIP fdIP ["self", "above", "below", "table", "rhythm"] (sp_Press_init CP) := fun k => ok_Press_init TP (Side k) (Table (k + 2)) (Rhythm (k + 3)) FIP
  have BD : ∀ k, BandDefs l.prog w K mg base CB (k + 1) := fun k => ⟨TB, cB.isi, ⟨_, _, M1, c1, ok_Band_called TB E1⟩, ⟨_, _, M2, c2, ok_Band_long TB E2⟩, ⟨_, _, M3, c3, ok_Band_pace TB E3⟩⟩
  have PD : ∀ k, PressDefs l.prog w K mg base CP (k + 1) := fun k => ⟨TP, cP.isi, ⟨_, _, M4, c4, ok_Press_above TP E4⟩, ⟨_, _, M5, c5, ok_Press_below TP E5⟩, ⟨_, _, M6, c6, ok_Press_table TP E6⟩, ⟨_, _, M7, c7, ok_Press_rhythm TP E7⟩⟩
  have Bands : ∀ k, Def l.prog w K mg base CX0 (k + 2) "are_bands" s_are_bands ["thing"] (sp_are_bands CB) := fun k => defOf F14 b14 (of a14) (ok_are_bands B (BD k) ⟨_, of zB⟩ ⟨_, of zP⟩ (Listed k) F14)
  have PlacesOf : ∀ k, Def l.prog w K mg base CX0 (k + 2) "places_of" s_places_of ["bands"] (sp_places_of CB) := fun k => defOf F15 b15 (of a15) (ok_places_of B (BD k) F15)
  have PF : ∀ k, Def l.prog w K mg base CX0 (k + 2) "is_press_for" s_is_press_for ["thing", "signs", "places"] (sp_is_press_for CP) := fun k => defOf F17 b17 (of a17) (ok_is_press_for B (PD k) F17)
  have Prs : ∀ k, Def l.prog w K mg base CX0 (k + 3) "are_presses" s_are_presses ["thing", "signs", "places"] (sp_are_presses CP) := fun k => defOf F18 b18 (of a18) (ok_are_presses B ⟨_, of zQ⟩ (Listed (k + 1)) (PF k) F18)
  have IW : ∀ k, FnOk l.prog w K mg base CX0 (k + 4) fIW fdIW ["self", "signs", "bands", "presses"] (sp_Work_init CW CB CP) := fun k => ok_Work_init B TW (Signs (k + 1)) (Bands (k + 1)) (Prs k) (PlacesOf (k + 1)) FIW
  have HasPlace : ∀ k, FnOk l.prog w K mg base CX0 (k + 4) e10 ed10 ["self", "thing"] (sp_has_place CW CB CP) := fun k => ok_has_place TW (Place k) E10
  have WD : ∀ k, WorkDefs l.prog w K mg base CW CB CP (k + 5) := fun k => ⟨TW, ⟨_, _, M8, c8, ok_Work_bands B TW E8⟩, ⟨_, _, M9, c9, ok_Work_presses B TW E9⟩, ⟨_, _, M11, c11, ok_place_in TW M10 c10 (HasPlace k) E11⟩, ⟨_, _, M12, c12, ok_has_press B TW (Within (k + 2)) E12⟩⟩
  have Called : ∀ k, Def l.prog w K mg base CX0 (k + 6) "band_called" s_band_called ["work", "name"] (sp_band_called CW CB CP) := fun k => defOf F16 b16 (of a16) (ok_band_called (WD k) (BD (k + 4)) F16)
  have Where : ∀ k, Def l.prog w K mg base CX0 (k + 7) "where" s_where ["work", "place", "beats"] (sp_where CW CB CP) := fun k => defOf F19 b19 (of a19) (ok_where (WD (k + 1)) (BD (k + 5)) (Called k) F19)
  have SideOf : ∀ k, Def l.prog w K mg base CX0 (k + 2) "side_of" s_side_of ["press", "side"] (sp_side_of CP) := fun k => defOf F20 b20 (of a20) (ok_side_of (PD k) F20)
  have Passes : ∀ k, Def l.prog w K mg base CX0 (k + 8) "passes" s_passes ["work", "press", "side", "place"] (sp_passes CW CB CP) := fun k => defOf F21 b21 (of a21) (ok_passes B (of zG) (WD (k + 2)) (BD (k + 6)) (PD (k + 6)) (SideOf (k + 5)) (Called (k + 1)) (Where k) F21)
  have Draw : ∀ k, Drw l.prog w K mg base (k + 1) f25 fd25 := fun k => ok_draw F25 (no N.len) (no N.abs)
  have Pick : ∀ k, Pck l.prog w K mg base (k + 2) f26 fd26 := fun k => ok_pick F26 F25 b25 (of a25) (Draw k) (no N.len)
  have Hd : ∀ k, Hands l.prog w K mg base CW CB CP (k + 9) := fun k => ⟨defOf F25 b25 (of a25) (Draw (k + 8)), defOf F26 b26 (of a26) (Pick (k + 7)), defOf F32 b32 (of a32) (ok_far F32 F25 b25 (of a25) (Draw (k + 7)) F26 b26 (of a26) (Pick (k + 6))),
    defOf F33 b33 (of a33) (ok_beats B F33), Where (k + 2), ⟨_, _, F22, of a22, ok_how_many B (no N.max) (no N.divmod) (Passes k) F22⟩, ⟨_, _, F23, of a23, ok_next (no N.max) (no N.divmod) (Passes k) F23⟩⟩
  have Adds : Def l.prog w K mg base CX0 10 "_law_adds_up" s_law_adds_up ["_law_feed_here", "_law_raw_here", "_law_work", "_law_number", "_law_side"] (sp_adds K CW CB CP) := defOf F34 b34 (of a34) (ok_adds (k := 9) B (no N.min) (no N.sorted) (Hd 0) F34)
  have Again : Def l.prog w K mg base CX0 10 "_law_comes_again" s_law_comes_again ["_law_feed_here", "_law_work", "_law_number", "_law_side", "_law_place"] (sp_again K CW CB CP) := defOf F35 b35 (of a35) (ok_again (k := 9) B (no N.min) (Hd 0) (Passes 1) F35)
  have Raw : Def l.prog w K mg base CX0 10 "_law_raw" s_law_raw ["_law_feed_here", "_law_sizes"] (sp_raw K) := defOf F30 b30 (of a30) (ok_raw (k := 9) B (no N.min) F30 F25 b25 (of a25) (Draw 8) F26 b26 (of a26) (Pick 7) F28 b28 (of a28) (ok_signs (k := 8) F28 F25 b25 (of a25) (Draw 7) F26 b26 (of a26) (Pick 6) (no N.rng) (no N.sorted))
    F27 b27 (of a27) (ok_names (k := 8) F27 F25 b25 (of a25) (Draw 7) F26 b26 (of a26) (Pick 6) B) F29 b29 (of a29) (ok_table (k := 8) B F29 F25 b25 (of a25) (Draw 7) F26 b26 (of a26) (Pick 6)))
  have Made : Def l.prog w K mg base CX0 10 "_law_made" s_law_made ["_law_raw_here"] (sp_made CW CB CP) := defOf F31 b31 (of a31) (ok_made (k := 8) F31 TB TP TW ⟨cB.makes, aIB, iIB, cB.kp⟩ ⟨cP.makes, aIP, iIP, cP.kp⟩ ⟨cW.makes, aIW, iIW, cW.kp⟩ (IB 4) (IP 3) (IW 4) kB kP bW)
  exact FnG.of (ok_law (k := 10) B (Hd 1) (defOf F24 b24 (of a24) (ok_feed F24)) Raw Made Adds Again F36)
end K05
set_option Elab.async false
set_option linter.all false
open PySem PySem.W PyProof.Rows
set_option maxRecDepth 100000 in
set_option maxHeartbeats 0 in
theorem PySem.Challenge.cw_bandprint_k05_whole_passes_add_up_holds : PySem.Challenge.rw_bandprint_k05_whole_passes_add_up.Holds := by
  w_on; o_law; k_head; (case hw => w_witness2)
  k_fill
  refine Bp.walkG (l := PySem.Challenge.rw_bandprint_k05_whole_passes_add_up) (n := 63) (k := 11) (x := "_law_script") (CX := fun _ => L2.CX0) (sp := fun w => K05.spLaw _) rfl (by decide) rfl (Bp.roomG_caller ⟨rfl, by decide, by decide⟩) (fun w h Y => PySem.W.kIn_of Y) ?F (fun w H a ns hl _ hS => ⟨a, ns, rfl, hS, Nat.le_trans hl (by decide), fun _ => rfl⟩) fun _ _ _ _ _ z => z
  case F =>
    intro w mg fa h KX G hmg
    refine' K05.all_mk KX G hmg ?qNames ?zF ?zA ?zL ?zR ?zB ?zP ?zQ ?zG ?iB ?iP ?iW ?jWhole ?jWithin ?jListed ?jLetters ?jName ?jSigns ?jPlace ?jLong ?jPace ?jSideN ?jSide ?jTable ?jRhythm ?jBands ?jPlaces ?jCalled ?jPF ?jPresses ?jWhere ?jSideOf ?jPasses ?jHow ?jNext ?jFeed ?jDraw ?jPick ?jNames ?jLSigns ?jLTable ?jRaw ?jMade ?jFar ?jBeats ?jAdds ?jAgain ?jLaw
    case qNames =>
      refine' ⟨?isi, ?int, ?bool, ?str, ?list, ?tuple, ?all, ?len, ?rng, ?sum, ?set, ?enu, ?abs, ?min, ?max, ?sorted, ?divmod⟩
      (case isi => k_is)
      (case int => k_is)
      (case bool => k_is)
      (case str => k_is)
      (case list => k_is)
      (case tuple => k_is)
      (case all => k_is)
      (case len => k_is)
      (case rng => k_is)
      (case sum => k_is)
      (case set => k_is)
      (case enu => k_is)
      (case abs => k_is)
      (case min => k_is)
      (case max => k_is)
      (case sorted => k_is)
      (case divmod => k_is)
    case zF => k_is
    case zA => k_is
    case zL => k_is
    case zR => k_is
    case zB => k_is
    case zP => k_is
    case zQ => k_is
    case zG => k_is
    case iB =>
      refine' K05.bandF_mk ?aC ?iC ?n1 ?n2 ?n3 ?a ?i ?l ?n ?c ?k ?m1 ?m2 ?m3
      (case aC => k_is)
      case iC =>
        refine' K05.isC_mk ?pg ?hd ?po ?sa ?mk ?kc ?ha ?hn ?htk ?hm
        (case pg => k_is)
        (case hd => k_is)
        (case po => k_is)
        (case sa => k_is)
        (case mk => k_is)
        (case kc => k_is)
        (case ha => k_is)
        (case hn => k_is)
        (case htk => k_is)
        (case hm => k_is)
      (case n1 => k_is)
      (case n2 => k_is)
      (case n3 => k_is)
      (case a => k_is)
      (case i => k_is)
      (case l => k_is)
      (case n => k_is)
      (case c => k_is)
      (case k => k_is)
      case m1 =>
        refine' K05.isM_mk ?a ?i ?l ?c ?k
        (case a => k_is)
        (case i => k_is)
        (case l => k_is)
        (case c => k_is)
        (case k => k_is)
      case m2 =>
        refine' K05.isM_mk ?a ?i ?l ?c ?k
        (case a => k_is)
        (case i => k_is)
        (case l => k_is)
        (case c => k_is)
        (case k => k_is)
      case m3 =>
        refine' K05.isM_mk ?a ?i ?l ?c ?k
        (case a => k_is)
        (case i => k_is)
        (case l => k_is)
        (case c => k_is)
        (case k => k_is)
    case iP =>
      refine' K05.pressF_mk ?aC ?iC ?n1 ?n2 ?n3 ?n4 ?a ?i ?l ?n ?c ?k ?m1 ?m2 ?m3 ?m4
      (case aC => k_is)
      case iC =>
        refine' K05.isC_mk ?pg ?hd ?po ?sa ?mk ?kc ?ha ?hn ?htk ?hm
        (case pg => k_is)
        (case hd => k_is)
        (case po => k_is)
        (case sa => k_is)
        (case mk => k_is)
        (case kc => k_is)
        (case ha => k_is)
        (case hn => k_is)
        (case htk => k_is)
        (case hm => k_is)
      (case n1 => k_is)
      (case n2 => k_is)
      (case n3 => k_is)
      (case n4 => k_is)
      (case a => k_is)
      (case i => k_is)
      (case l => k_is)
      (case n => k_is)
      (case c => k_is)
      (case k => k_is)
      case m1 =>
        refine' K05.isM_mk ?a ?i ?l ?c ?k
        (case a => k_is)
        (case i => k_is)
        (case l => k_is)
        (case c => k_is)
        (case k => k_is)
      case m2 =>
        refine' K05.isM_mk ?a ?i ?l ?c ?k
        (case a => k_is)
        (case i => k_is)
        (case l => k_is)
        (case c => k_is)
        (case k => k_is)
      case m3 =>
        refine' K05.isM_mk ?a ?i ?l ?c ?k
        (case a => k_is)
        (case i => k_is)
        (case l => k_is)
        (case c => k_is)
        (case k => k_is)
      case m4 =>
        refine' K05.isM_mk ?a ?i ?l ?c ?k
        (case a => k_is)
        (case i => k_is)
        (case l => k_is)
        (case c => k_is)
        (case k => k_is)
    case iW =>
      refine' K05.workF_mk ?aC ?iC ?n1 ?n2 ?n3 ?n4 ?n5 ?a ?i ?l ?d ?c ?k ?m1 ?m2 ?m3 ?m4 ?m5
      (case aC => k_is)
      case iC =>
        refine' K05.isC_mk ?pg ?hd ?po ?sa ?mk ?kc ?ha ?hn ?htk ?hm
        (case pg => k_is)
        (case hd => k_is)
        (case po => k_is)
        (case sa => k_is)
        (case mk => k_is)
        (case kc => k_is)
        (case ha => k_is)
        (case hn => k_is)
        (case htk => k_is)
        (case hm => k_is)
      (case n1 => k_is)
      (case n2 => k_is)
      (case n3 => k_is)
      (case n4 => k_is)
      (case n5 => k_is)
      (case a => k_is)
      (case i => k_is)
      (case l => k_is)
      (case d => k_is)
      (case c => k_is)
      (case k => k_is)
      case m1 =>
        refine' K05.isM_mk ?a ?i ?l ?c ?k
        (case a => k_is)
        (case i => k_is)
        (case l => k_is)
        (case c => k_is)
        (case k => k_is)
      case m2 =>
        refine' K05.isM_mk ?a ?i ?l ?c ?k
        (case a => k_is)
        (case i => k_is)
        (case l => k_is)
        (case c => k_is)
        (case k => k_is)
      case m3 =>
        refine' K05.isM_mk ?a ?i ?l ?c ?k
        (case a => k_is)
        (case i => k_is)
        (case l => k_is)
        (case c => k_is)
        (case k => k_is)
      case m4 =>
        refine' K05.isM_mk ?a ?i ?l ?c ?k
        (case a => k_is)
        (case i => k_is)
        (case l => k_is)
        (case c => k_is)
        (case k => k_is)
      case m5 =>
        refine' K05.isM_mk ?a ?i ?l ?c ?k
        (case a => k_is)
        (case i => k_is)
        (case l => k_is)
        (case c => k_is)
        (case k => k_is)
    case jWhole =>
      refine' K05.is_mk ?a ?l ?c ?k
      (case a => k_is); (case l => k_is); (case c => k_is); (case k => k_is)
    case jWithin =>
      refine' K05.is_mk ?a ?l ?c ?k
      (case a => k_is); (case l => k_is); (case c => k_is); (case k => k_is)
    case jListed =>
      refine' K05.is_mk ?a ?l ?c ?k
      (case a => k_is); (case l => k_is); (case c => k_is); (case k => k_is)
    case jLetters =>
      refine' K05.is_mk ?a ?l ?c ?k
      (case a => k_is); (case l => k_is); (case c => k_is); (case k => k_is)
    case jName =>
      refine' K05.is_mk ?a ?l ?c ?k
      (case a => k_is); (case l => k_is); (case c => k_is); (case k => k_is)
    case jSigns =>
      refine' K05.is_mk ?a ?l ?c ?k
      (case a => k_is); (case l => k_is); (case c => k_is); (case k => k_is)
    case jPlace =>
      refine' K05.is_mk ?a ?l ?c ?k
      (case a => k_is); (case l => k_is); (case c => k_is); (case k => k_is)
    case jLong =>
      refine' K05.is_mk ?a ?l ?c ?k
      (case a => k_is); (case l => k_is); (case c => k_is); (case k => k_is)
    case jPace =>
      refine' K05.is_mk ?a ?l ?c ?k
      (case a => k_is); (case l => k_is); (case c => k_is); (case k => k_is)
    case jSideN =>
      refine' K05.is_mk ?a ?l ?c ?k
      (case a => k_is); (case l => k_is); (case c => k_is); (case k => k_is)
    case jSide =>
      refine' K05.is_mk ?a ?l ?c ?k
      (case a => k_is); (case l => k_is); (case c => k_is); (case k => k_is)
    case jTable =>
      refine' K05.is_mk ?a ?l ?c ?k
      (case a => k_is); (case l => k_is); (case c => k_is); (case k => k_is)
    case jRhythm =>
      refine' K05.is_mk ?a ?l ?c ?k
      (case a => k_is); (case l => k_is); (case c => k_is); (case k => k_is)
    case jBands =>
      refine' K05.is_mk ?a ?l ?c ?k
      (case a => k_is); (case l => k_is); (case c => k_is); (case k => k_is)
    case jPlaces =>
      refine' K05.is_mk ?a ?l ?c ?k
      (case a => k_is); (case l => k_is); (case c => k_is); (case k => k_is)
    case jCalled =>
      refine' K05.is_mk ?a ?l ?c ?k
      (case a => k_is); (case l => k_is); (case c => k_is); (case k => k_is)
    case jPF =>
      refine' K05.is_mk ?a ?l ?c ?k
      (case a => k_is); (case l => k_is); (case c => k_is); (case k => k_is)
    case jPresses =>
      refine' K05.is_mk ?a ?l ?c ?k
      (case a => k_is); (case l => k_is); (case c => k_is); (case k => k_is)
    case jWhere =>
      refine' K05.is_mk ?a ?l ?c ?k
      (case a => k_is); (case l => k_is); (case c => k_is); (case k => k_is)
    case jSideOf =>
      refine' K05.is_mk ?a ?l ?c ?k
      (case a => k_is); (case l => k_is); (case c => k_is); (case k => k_is)
    case jPasses =>
      refine' K05.is_mk ?a ?l ?c ?k
      (case a => k_is); (case l => k_is); (case c => k_is); (case k => k_is)
    case jHow =>
      refine' K05.is_mk ?a ?l ?c ?k
      (case a => k_is); (case l => k_is); (case c => k_is); (case k => k_is)
    case jNext =>
      refine' K05.isK_int ?a ?l ?n ?c ?k
      (case a => k_is)
      (case l => k_is)
      (case n => k_is)
      (case c => k_is)
      (case k => k_is)
    case jFeed =>
      refine' K05.is_mk ?a ?l ?c ?k
      (case a => k_is); (case l => k_is); (case c => k_is); (case k => k_is)
    case jDraw =>
      refine' K05.is_mk ?a ?l ?c ?k
      (case a => k_is); (case l => k_is); (case c => k_is); (case k => k_is)
    case jPick =>
      refine' K05.is_mk ?a ?l ?c ?k
      (case a => k_is); (case l => k_is); (case c => k_is); (case k => k_is)
    case jNames =>
      refine' K05.is_mk ?a ?l ?c ?k
      (case a => k_is); (case l => k_is); (case c => k_is); (case k => k_is)
    case jLSigns =>
      refine' K05.is_mk ?a ?l ?c ?k
      (case a => k_is); (case l => k_is); (case c => k_is); (case k => k_is)
    case jLTable =>
      refine' K05.is_mk ?a ?l ?c ?k
      (case a => k_is); (case l => k_is); (case c => k_is); (case k => k_is)
    case jRaw =>
      refine' K05.is_mk ?a ?l ?c ?k
      (case a => k_is); (case l => k_is); (case c => k_is); (case k => k_is)
    case jMade =>
      refine' K05.is_mk ?a ?l ?c ?k
      (case a => k_is); (case l => k_is); (case c => k_is); (case k => k_is)
    case jFar =>
      refine' K05.is_mk ?a ?l ?c ?k
      (case a => k_is); (case l => k_is); (case c => k_is); (case k => k_is)
    case jBeats =>
      refine' K05.is_mk ?a ?l ?c ?k
      (case a => k_is); (case l => k_is); (case c => k_is); (case k => k_is)
    case jAdds =>
      refine' K05.is_mk ?a ?l ?c ?k
      (case a => k_is); (case l => k_is); (case c => k_is); (case k => k_is)
    case jAgain =>
      refine' K05.is_mk ?a ?l ?c ?k
      (case a => k_is); (case l => k_is); (case c => k_is); (case k => k_is)
    case jLaw =>
      refine' K05.is_mk ?a ?l ?c ?k
      (case a => k_is); (case l => k_is); (case c => k_is); (case k => k_is)


