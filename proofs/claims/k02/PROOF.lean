import PyProof.Rows.All
import Wide.All
import OpenK.AllK
import Wide.FinOn
import HandS.ForMost
import HandS.ForExc
import HandS.IsInst
import HandS.CallLocal
import HandS.Wide
import HandS.WideBits
import HandS.Flow
import HandS.EndBits
import HandS.WrittenGet
import PyProof.ReprRoads
import HandS.More
import PySem.Challenge.RW_cellbills_k02_numbers_and_their_deeds
set_option Elab.async false
set_option linter.all false
set_option maxRecDepth 100000
set_option maxHeartbeats 4000000
/-! What the layer lacks: defs that may ask for a text of a list (they want to know that no such asking is under way), // by any number that is not 0, great powers, calls by keywords alone, repr of data. -/
namespace Cb
open PySem PySem.Spec PyProof.Rows L2

/-! ### numbers -/
def DivAny (_ j : Int) : Prop := j ≠ 0 ∧ j.natAbs.log2 < 9000
def PowAny (i j : Int) : Prop := 0 ≤ j ∧ (Builtin.Int.intBits i : Int) * j ≤ 2 ^ 27
section
variable {X : Cx}
theorem op_fdivA : OpR X (binaryOp .FloorDiv) (rI DivAny fun i j => .int (i.fdiv j)) :=
  opI fun _ _ _ _ _ _ _ hd q => floordiv_int hd.1 q (.inl (PyProof.noPylong_of_log2 hd.2))
theorem op_powA : OpR X (binaryOp .Pow) (rI PowAny fun i j => .int (i ^ j.toNat)) :=
  opI fun _ _ _ _ _ _ _ hd q => pow_int hd.1 hd.2 q
end

/-! ### a text of data -/
@[irreducible] def rRepr (K : PySem.W.Frag) (u : Nat) : List V → Hp → VK → Prop := fun vs H Q =>
  ∃ (v : V) (d : PyData), vs = [v] ∧ Dp K H v d ∧ d.showable = true ∧ d.hasDict = false ∧ u + (d.depth + 1) < cLine ∧ ((∃ i, d = .int i) ∨ d.shown.length ≤ sizeLine) ∧ Q (.str d.shown) H
section
variable {X : Cx}
theorem call_repr (hg : X.A.guards = some []) : CallR X (.builtin "repr") (rRepr X.K X.A.units) := by
  intro pins s σ H vs us Q I rel h
  unfold rRepr at h
  obtain ⟨v, d, rfl, hd, hs, hn, hu, hz, q⟩ := h
  obtain ⟨u, rfl, ru⟩ := vals1 rel
  obtain ⟨as, rd⟩ := Dp.reads I d v u hd ru
  cases hd with
  | non =>
    cases ru
    exact PySem.P.repr_of_none ⟨.str "None", H, I.tok _, ⟨_, rfl⟩, q⟩
  | bl b =>
    cases ru
    exact PySem.P.repr_of_bool ⟨.str (PyData.shown (.bool b)), H, I.tok _, ⟨_, rfl⟩, q⟩
  | int i =>
    obtain ⟨t, rfl⟩ := ru
    have hi : i.natAbs.log2 < 1920 := of_decide_eq_true hs
    exact PySem.P.repr_of_int hi ⟨.str (PyData.shown (.int i)), H, I.tok _, ⟨_, rfl⟩, q⟩
  | str x =>
    obtain ⟨t, rfl⟩ := ru
    exact PySem.P.repr_of_str ⟨.str (PyData.shown (.str x)), H, I.tok _, ⟨_, rfl⟩, q⟩ (hz.resolve_left fun ⟨_, z⟩ => nomatch z)
  | lst e1 e2 =>
    cases ru
    exact repr_of_reads' rd hs (PyData.noDict_hsm hn) hg hu (fun _ _ z => z) (fun h' w tk hk => ⟨.str (PyData.shown _), H, I.kept hk, ⟨_, rfl⟩, q⟩) (hz.resolve_left fun ⟨_, z⟩ => nomatch z)
  | tup e1 e2 =>
    cases ru
    exact repr_of_reads' rd hs (PyData.noDict_hsm hn) hg hu (fun _ _ z => z) (fun h' w tk hk => ⟨.str (PyData.shown _), H, I.kept hk, ⟨_, rfl⟩, q⟩) (hz.resolve_left fun ⟨_, z⟩ => nomatch z)
end

/-! ### defs that want to know what is under way -/
structure FnG (P : Program) (w : World) (K : PySem.W.Frag) (mg : Str → Option Value) (base : Heap) (c : CXT) (k : Nat) (f : Addr) (fd : FuncData) (ps : List Str) (sp : Sp) : Prop where
  long : ∀ vs H Q E, sp vs H Q E → vs.length = ps.length
  goes : ∀ A : Around, A.guards = some [] → Room k A → ∀ (around : List Env) (s : Shared) (H : Hp) (given : Args) (us : List Value) (vs : List V) (Q : VK) (E : XK),
    Env0 P w K mg base A around s H → BindsTo s fd given (ps.zip us) → Vals vs us → sp vs H Q E →
    codeAny (model P w) A (.call (.ref f) given) (CR c around P w H s Q E) s
theorem FnG.up {P : Program} {w : World} {K : PySem.W.Frag} {mg : Str → Option Value} {base : Heap} {c : CXT} {j k : Nat} {f : Addr} {fd : FuncData} {ps : List Str} {sp : Sp}
    (G : FnG P w K mg base c j f fd ps sp) (le : j ≤ k) : FnG P w K mg base c k f fd ps sp :=
  { long := G.long, goes := fun A ga room => G.goes A ga (room.mono le) }
section
variable {X : Cx} {c : CXT} {k : Nat} {f : Addr} {fd : FuncData} {ps : List Str} {sp : Sp} {dvs : List V} {ds : List Value} {E : XK} {x : Str} {p pos : Pos} {e : Expr} {es : List Expr} {t : TA}
theorem runs_g {pins : List (Addr × Obj)} {σ : L2.St} {H : Hp} {s : Shared} {Q : VK} {us : List Value} {vs : List V} (G : FnG X.prog X.w X.K X.mg X.base c k f fd ps sp) (ga : X.A.guards = some []) (room : Room k X.A)
    (bd : Binds X.K fd ps ds) (hd : Vals dvs ds) (out : Passes c X E) (I : Inv X pins σ H s) (rel : Vals vs us) (pr : sp (vs ++ dvs) H Q E) :
    wpAny (model X.prog X.w) X.A (call (.ref f) us) (EP X pins σ Q) X.xe s := by
  have all := rel.append hd
  have many : (us ++ ds).length = ps.length := all.length ▸ G.long _ _ _ _ pr
  refine wpAny_call (codeAny_mono (G.goes X.A ga room X.stack s H ⟨us, []⟩ _ _ Q E I.env0 (bd s us I.kIn many) all pr) ?_)
  intro res s2 got
  match res, got with
  | .error err, got => exact out pins σ H s err s2 I got
  | .ok (.ret u), got => exact I.after got
theorem pe_callG (G : FnG X.prog X.w X.K X.mg X.base c k f fd ps sp) (ga : X.A.guards = some []) (room : Room k X.A) (gl : Gl X x) (mm : X.mg x = some (.ref f)) (kk : PySem.W.keepIn X.K (.ref f) = true)
    (bd : Binds X.K fd ps ds) (hd : Vals dvs ds) (out : Passes c X E) (ha : PA X (e :: es) t) (nd : (x == ("__debug__" : Str)) = false := by decide)
    (se : starEach (e :: es) X.env = (false, eval e X.env) :: starEach es X.env := by rfl) (pl : (backTo pos (starEach es X.env)).any (·.1) = false := by rfl) :
    PE X (.Call (.Name x p) (e :: es) [] pos) (tCall sp dvs E t) := by
  constructor
  intro pins s σ H Q I pr
  refine wpAny_Call_Name_kw (ld_glob I gl mm (PySem.W.callWith_K (h₀ := X.base) I.ok.mod.kin kk ?_ se pl) nd)
  refine thn (ha.run pos pins s σ H _ I pr) ?_
  rintro us s1 ⟨vs, H1, J, rel, pr1⟩
  exact ⟨J.kIn, runs_g G ga room bd hd out J rel pr1⟩
end
/-! f(k = v, ..) -/
section
variable {X : Cx} {c : CXT} {k : Nat} {f : Addr} {fd : FuncData} {ps ks : List Str} {sp : Sp} {E : XK} {x : Str} {p pos : Pos} {kws : List Keyword} {tk : TA} {g : List Value → List Value → List Value} {gV : List V → List V → List V}
theorem pe_callK0 (F : FnOk X.prog X.w X.K X.mg X.base c k f fd ps sp) (room : Room k X.A) (gl : Gl X x) (mm : X.mg x = some (.ref f)) (kk : PySem.W.keepIn X.K (.ref f) = true) (kb : KBinds X.K fd ps ks g gV) (out : Passes c X E) (hk : PK X kws tk)
    (named : (backToKw pos (keywordEach kws X.env)).all (·.1.isSome) = true := by rfl) (names : (backToKw pos (keywordEach kws X.env)).filterMap (·.1) = ks := by rfl) (nd : (x == ("__debug__" : Str)) = false := by decide)
    (pl : ((backTo pos (starEach [] X.env)).any (·.1) || (backToKw pos (keywordEach kws X.env)).any (·.1.isNone)) = false := by rfl) :
    PE X (.Call (.Name x p) [] kws pos) (tCallK sp gV E tNil tk) := by
  constructor
  intro pins s σ H Q I pr
  refine wpAny_Call_Name_kw (ld_glob I gl mm (PySem.W.callWith_KW0 (h₀ := X.base) I.ok.mod.kin kk named ?_ pl) nd)
  refine thn (hk.run pos pins s σ H _ I pr) ?_
  rintro ws s1 ⟨zs, H1, J, rel, pr1⟩
  refine ⟨J.kIn, ?_⟩
  rw [names]
  exact run_fnk (us := []) (vs := []) F room kb out J .nil rel pr1
end
/-- a def of the text that wants to know it -/
theorem fun_g {P : Program} {w : World} {K : PySem.W.Frag} {mg : Str → Option Value} {base : Heap} {c : CXT} {x qual : Str} {st : Stmt} {f : Addr} {fd : FuncData} {N ps : List Str} {k : Nat} {sp : Sp}
    (F : Fun K x qual st f fd) (S : FnScope N ps (defScope st)) (long : ∀ vs H Q E, sp vs H Q E → vs.length = ps.length)
    (body : ∀ (cdv : Value) (A : Around) (around : List Env) (s : Shared) (H : Hp) (vs : List V) (Q : VK) (E : XK), A.guards = some [] → Room k (A.deeper (envOfC qual (defScope st) s.heap.objs.size f cdv)) → sp vs H Q E →
      ∃ t, PSs (cxOf c P w K mg base N qual (defScope st) f cdv A around s H E) (defBody st) t ∧ t { nx := fun _ H' => Q .non H', rt := Q } (start N vs) H) :
    FnG P w K mg base c (k + 1) f fd ps sp := by
  obtain ⟨oc, od, kV, doc, pm, an, cdv, ct, osl, rfl, lk, hcd⟩ := F.ex
  refine ⟨long, ?_⟩
  intro A ga room around s H given us vs Q E z0 bd rel pr
  have KX : K.In s.heap := z0.mod.kin.keeps fun b o q => (z0.bs b o q).1
  have lim : s.heap.NoLimit := z0.mod.nolimit.keeps fun b o q => (z0.bs b o q).1
  have where_ : ∀ y ∈ ps.zip us, (defScope st).names.lookup y.1 = some .local ∨ ((defScope st).names.lookup y.1 = some .cell ∧ ((cellsFrom (s.heap.objs.size + 1) (defScope st).names []).lookup y.1).isSome = true) := by
    rintro ⟨n, v⟩ hy
    exact (S.par n (List.of_mem_zip hy).1).imp_right fun q => ⟨q, PySem.W.cellsFrom_some _ _ _ (.inl q)⟩
  refine codeAny_call_function room.depth (KX _ _ lk) rfl S.co S.gen rfl (PySem.W.codeRec_of KX hcd) (bd _ _ _ _ (wpAny_newFunctionEnv_cells S.kind where_ ?_))
  rintro env rfl s1 fresh
  refine ⟨lim.keeps fresh.toInCall.keep, codeAny_func ?_⟩
  obtain ⟨t, ht, hq⟩ := body cdv A around s H vs Q E ga (room.deeper _) pr
  have J : Inv (cxOf c P w K mg base N qual (defScope st) f cdv A around s H E) [] (start N vs) H s1 := inv_start S room.hd z0 (long _ _ _ _ pr) rel fresh
  refine wpAny_mono (ht.run [] s1 (start N vs) H _ J hq) ?_ (fun _ _ z => z)
  intro fl s2 got
  match fl, got with
  | .ret u, ⟨v, σ2, H2, L, rv, q⟩ => exact ⟨v, H2, L.os, L.bare, L.base, L.hok, rv, q⟩
  | .next, ⟨σ2, H2, L, q⟩ => exact ⟨V.non, H2, L.os, L.bare, L.base, L.hok, rfl, q⟩
  | .brk, ⟨_, _, _, q⟩ => exact q.elim
  | .cont, ⟨_, _, _, q⟩ => exact q.elim
end Cb
set_option Elab.async false
set_option linter.all false
set_option maxRecDepth 100000
set_option maxHeartbeats 4000000
namespace Cb
open PySem PySem.Spec PyProof.Rows L2
section
variable {P : Program} {w : World} {K : PySem.W.Frag} {mg mb : Str → Option Value} {k : Nat} {fa a : Addr} {fd : FuncData} {x : Str} {sp : Sp} {s : Shared} {vs : List Value} {ns : List Int}
/-- the law's def, called with the script, from an abstract heap that knows at most the script -/
theorem enters (H : Hp) (ob : Obj) (eo : ob = { cls := .type "list", data := .seq vs.toArray }) (H1 : ∀ b u, H b = some u → b = a ∧ u = .frz ob (.lst (ns.map V.int)) ∧ K.lookup a = none) (hS : SqL K H a (ns.map V.int)) (hok : HOk P w H s.heap)
    (KX : K.In s.heap) (g1 : s.heap.Ns mainGlobals mg) (g2 : s.heap.Ns builtinsNs mb) (g3 : ∀ x : Str, x ≠ "__name__" → mb x = bootBuiltins x) (g4 : s.heap.NoLimit) (g5 : s.gens = #[])
    (at_ : s.heap.get? a = some ob) (room : Room k callerA)
    (G : ∀ base : Heap, K.In base → base.Ns mainGlobals mg → FnG P w K mg base CX0 k fa fd [x] sp) (bd : ∀ (s : Shared) (u : Value), BindsTo s fd ⟨[u], []⟩ [(x, u)])
    (pr : sp [.ref a] H (fun v _ => v = .bl true) fun _ _ _ => False) :
    codeAny (model P w) callerA (.call (.ref fa) ⟨[.ref a], []⟩) (fun r s' => r = .ok (.ret (.bool true)) ∧ OldK s.heap s'.heap ∧ s'.os = s.os ∧ AllBare s'.gens) s := by
  have off : ∀ {b : Addr} {o : Obj}, s.heap.get? b = some o → o ≠ ob → H b = none := by
    intro b o e ne
    cases z : H b with
    | none => rfl
    | some u =>
      obtain ⟨rfl, _, _⟩ := H1 b u z
      exact absurd (Option.some.inj (e.symm.trans at_)) ne
  have offD : ∀ {b : Addr} {o : Obj} {es : Array DictEntry} {ep : Nat}, s.heap.get? b = some o → o.data = .dict es ep → H b = none := fun {b o es ep} e d => off e (by
    rintro rfl
    rw [eo] at d
    cases d)
  have hid : ∀ {b : Addr} {m : Str → Option Value}, s.heap.Ns b m → (hidT s.heap H).Ns b m := by
    rintro b m ⟨o, es, ep, e, d, r⟩
    exact ⟨o, es, ep, hidT_get e (offD e d), d, r⟩
  have KB : K.In (hidT s.heap H) := by
    intro b o e
    refine hidT_get (KX b o e) ?_
    cases z : H b with
    | none => rfl
    | some u =>
      obtain ⟨rfl, _, no⟩ := H1 b u z
      rw [no] at e
      cases e
  obtain ⟨mc, l1, l2⟩ := g4
  have z0 : Env0 P w K mg (hidT s.heap H) callerA [] s H :=
    { frames := rfl, mod := ⟨KB, hid g1, ⟨mb, hid g2, g3⟩, ⟨mc, hid l1, l2⟩⟩, bs := fun b o e => of_hidT e, bsz := Nat.le_of_eq (hidT_size _ _), funs := trivial
      frf := fun b hb => absurd (show b ∈ ([] : List Addr) from hb) List.not_mem_nil, hok := hok, bare := .of_eq g5 }
  refine codeAny_mono ((G _ KB (hid g1)).goes callerA rfl room [] s H ⟨[.ref a], []⟩ [.ref a] [.ref a] _ _ z0 (bd s (.ref a)) (.cons rfl .nil) pr) ?_
  intro res s2 got
  match res, got with
  | .ok (.ret u), got =>
    obtain ⟨v, H', os, bare, un, hok', rv, ev⟩ := got
    obtain rfl : v = V.bl true := ev
    obtain rfl : u = Value.bool true := rv
    refine ⟨rfl, OldK.of_keep ?_, os, bare⟩
    intro b o e
    cases z : H b with
    | none => exact un.keep b o e z (fun q => absurd (show b ∈ ([] : List Addr) from q) List.not_mem_nil) (by simp)
    | some u =>
      obtain ⟨rfl, rfl, _⟩ := H1 b u z
      have z2 := un.frzs b ob _ z
      obtain ⟨q1, _⟩ := hok b _ z
      obtain ⟨q2, _⟩ := hok' b _ z2
      exact (Option.some.inj (e.symm.trans q1)) ▸ q2
theorem enter (hobj : s.heap.get? a = some { cls := .type "list", data := .seq vs.toArray }) (hi : IntsAre vs ns) (hl : ns.length ≤ sizeLine)
    (KX : K.In s.heap) (g1 : s.heap.Ns mainGlobals mg) (g2 : s.heap.Ns builtinsNs mb) (g3 : ∀ x : Str, x ≠ "__name__" → mb x = bootBuiltins x) (g4 : s.heap.NoLimit) (g5 : s.gens = #[]) (room : Room k callerA)
    (G : ∀ base : Heap, K.In base → base.Ns mainGlobals mg → FnG P w K mg base CX0 k fa fd [x] sp) (bd : ∀ (s : Shared) (u : Value), BindsTo s fd ⟨[u], []⟩ [(x, u)])
    (pr : ∀ H : Hp, SqL K H a (ns.map V.int) → sp [.ref a] H (fun v _ => v = .bl true) fun _ _ _ => False) :
    codeAny (model P w) callerA (.call (.ref fa) ⟨[.ref a], []⟩) (fun r s' => r = .ok (.ret (.bool true)) ∧ OldK s.heap s'.heap ∧ s'.os = s.os ∧ AllBare s'.gens) s := by
  have rel := vals_ints hi
  cases hk : K.lookup a with
  | some o =>
    have same := Option.some.inj ((KX a o hk).symm.trans hobj)
    have hS : SqL K (fun _ => none) a (ns.map V.int) := .inr ⟨o, vs.toArray, _, hk, by rw [same], by rw [same], by rw [same], by rw [List.size_toArray, hi.length]; exact hl, rel⟩
    exact enters (fun _ => none) _ rfl (fun b u z => nomatch (show (none : Option HO) = some u from z)) hS (fun b u z => nomatch (show (none : Option HO) = some u from z)) KX g1 g2 g3 g4 g5 hobj room G bd (pr _ hS)
  | none =>
    let ob : Obj := { cls := .type "list", data := .seq vs.toArray }
    let H : Hp := fun b => if b = a then some (.frz ob (.lst (ns.map V.int))) else none
    have H1 : ∀ b u, H b = some u → b = a ∧ u = .frz ob (.lst (ns.map V.int)) ∧ K.lookup a = none := by
      intro b u z
      by_cases q : b = a
      · exact ⟨q, (Option.some.inj ((if_pos q).symm.trans z)).symm, hk⟩
      · exact nomatch ((if_neg q).symm.trans z : (none : Option HO) = some u)
    have hS : SqL K H a (ns.map V.int) := .inl (.inr ⟨ob, if_pos rfl⟩)
    refine enters H ob rfl H1 hS ?_ KX g1 g2 g3 g4 g5 hobj room G bd (pr _ hS)
    intro b u z
    obtain ⟨rfl, rfl, _⟩ := H1 b u z
    exact ⟨hobj, by rw [List.length_map]; exact hl, vs, _, rel, hobj⟩
end
/-- the goal that k_head leaves, for a law's def that wants to know what is under way; the script's ints with their bits -/
theorem walk_g {l : PySem.W.OpenLaw} {n k : Nat} {q : Program} {loose : List Str} {XP : (Str → Option Value) → Heap → Prop} {YP : World → Heap → Prop} {d : DefRec} {K : Params → PySem.W.Frag} {sp : PySem.W.Frag → Sp} {x : Str}
    (hn : l.most = some n) (small : n ≤ sizeLine) (plain : d.params.defaults = []) (room : Room k callerA) (hK : ∀ (w : World) (h : Heap), YP w h → (K w.params).In h)
    (G : ∀ (w : World) (mg : Str → Option Value) (fa : Addr) (h : Heap), (K w.params).In h → h.Ns mainGlobals mg → mg d.name = some (.ref fa) →
      ∃ fd : FuncData, (∀ (s : Shared) (u : Value), BindsTo s fd ⟨[u], []⟩ [(x, u)]) ∧ ∀ base : Heap, (K w.params).In base → base.Ns mainGlobals mg → FnG l.prog w (K w.params) mg base CX0 k fa fd [x] (sp (K w.params)))
    (pr : ∀ (K : PySem.W.Frag) (H : Hp) (a : Addr) (ns : List Int), ns.length ≤ n → (∀ i ∈ ns, Builtin.Int.intBits i ≤ 1048576) → SqL K H a (ns.map V.int) → sp K [.ref a] H (fun v _ => v = .bl true) fun _ _ _ => False) :
    PySem.W.WalkO q loose XP YP l.row.toRowW d [] (fun f vs => PySem.call f vs) := by
  refine Att.attach_callB hn plain ?_
  intro w s0 s mg mb fa o pm cd doc a vs ns A Y _ _ _ hmg hobj hints hlen hbits hg
  have KX := hK w _ Y
  obtain ⟨fd, bd, GG⟩ := G w mg fa _ KX A.T.g hmg
  exact enter hobj hints (Nat.le_trans hlen small) KX A.T.g A.T.b A.T.builtins A.T.nolimit hg room GG bd fun H hS => pr _ H a ns hlen hbits hS
end Cb
set_option Elab.async false
set_option linter.all false
set_option maxRecDepth 100000
set_option maxHeartbeats 4000000
namespace Cb
open PySem PySem.Spec PyProof.Rows L2
/-- a def stands under its name -/
def Has (K : PySem.W.Frag) (mg : Str → Option Value) (x : Str) (st : Stmt) (ps : List Str) : Prop :=
  ∃ (f : Addr) (fd : FuncData), Fun K x x st f fd ∧ mg x = some (.ref f) ∧ Binds K fd ps []
/-- it keeps a promise -/
def Says (P : Program) (w : World) (K : PySem.W.Frag) (mg : Str → Option Value) (base : Heap) (k : Nat) (x : Str) (ps : List Str) (sp : Sp) : Prop :=
  ∃ (f : Addr) (fd : FuncData), FnOk P w K mg base CX0 k f fd ps sp ∧ mg x = some (.ref f) ∧ PySem.W.keepIn K (.ref f) = true ∧ Binds K fd ps []
def SaysG (P : Program) (w : World) (K : PySem.W.Frag) (mg : Str → Option Value) (base : Heap) (k : Nat) (x : Str) (ps : List Str) (sp : Sp) : Prop :=
  ∃ (f : Addr) (fd : FuncData), FnG P w K mg base CX0 k f fd ps sp ∧ mg x = some (.ref f) ∧ PySem.W.keepIn K (.ref f) = true ∧ Binds K fd ps []
/-- also by keywords alone, in an order of their own: g puts them in the parameters' order -/
def kOnly (g : {α : Type} → List α → List α) : {α : Type} → List α → List α → List α
  | _, [], ws => g ws
  | _, _ :: _, _ => []
def SaysK (P : Program) (w : World) (K : PySem.W.Frag) (mg : Str → Option Value) (base : Heap) (k : Nat) (x : Str) (ps ks : List Str) (g : {α : Type} → List α → List α) (sp : Sp) : Prop :=
  ∃ (f : Addr) (fd : FuncData), FnOk P w K mg base CX0 k f fd ps sp ∧ mg x = some (.ref f) ∧ PySem.W.keepIn K (.ref f) = true ∧ KBinds K fd ps ks (kOnly g) (kOnly g)
def HasK (K : PySem.W.Frag) (mg : Str → Option Value) (x : Str) (st : Stmt) (ps ks : List Str) (g : {α : Type} → List α → List α) : Prop :=
  ∃ (f : Addr) (fd : FuncData), Fun K x x st f fd ∧ mg x = some (.ref f) ∧ KBinds K fd ps ks (kOnly g) (kOnly g)
/-- a def's body keeps a promise -/
abbrev Body (P : Program) (w : World) (K : PySem.W.Frag) (mg : Str → Option Value) (base : Heap) (k : Nat) (x : Str) (st : Stmt) (N : List Str) (sp : Sp) : Prop :=
  ∀ (f : Addr) (cdv : Value) (A : Around) (outer : List Env) (s : Shared) (H : Hp) (vs : List V) (Q : VK) (E : XK), Room k (A.deeper (envOfC x (defScope st) s.heap.objs.size f cdv)) → sp vs H Q E →
      ∃ t, PSs (cxOf CX0 P w K mg base N x (defScope st) f cdv A outer s H E).nox (defBody st) t ∧ t { nx := fun _ H' => Q .non H', rt := Q } (start N vs) H
section
variable {P : Program} {w : World} {K : PySem.W.Frag} {mg : Str → Option Value} {base : Heap} {k : Nat} {x : Str} {st : Stmt} {N ps : List Str} {sp : Sp}
theorem has {f : Addr} {oc : Value} {od an : Option Addr} {osl : Array (Option Value)} {kV doc pm cdv ct : Value} {h : Heap} (X : K.In h) (G : h.Ns mainGlobals mg) (a : PySem.W.nsIn K mainGlobals x = some (some (.ref f)))
    (l : K.lookup f = some ⟨oc, od, .func (PySem.W.fnOf x x (defArgs st) (defBody st) (defScope st) .none kV doc pm an cdv ct), osl⟩) (c : PySem.W.codeIn K cdv x = true) (kp : PySem.W.keepIn K (.ref f) = true)
    (b : ∀ (kV doc pm : Value) (an : Option Addr) (cdv ct : Value) (us : List Value), us.length = ps.length → bindArgs (PySem.W.fnOf x x (defArgs st) (defBody st) (defScope st) .none kV doc pm an cdv ct) ⟨us, []⟩ = pure (ps.zip us)) :
    Has K mg x st ps := ⟨f, _, fun_mk l c kp, PySem.W.mg_of X G a, (fun_mk l c kp).binds b⟩
theorem says (h : Has K mg x st ps) (S : FnScope N ps (defScope st)) (len : ∀ vs H Q E, sp vs H Q E → vs.length = ps.length)
    (body : ∀ (f : Addr) (cdv : Value) (A : Around) (outer : List Env) (s : Shared) (H : Hp) (vs : List V) (Q : VK) (E : XK), Room k (A.deeper (envOfC x (defScope st) s.heap.objs.size f cdv)) → sp vs H Q E →
      ∃ t, PSs (cxOf CX0 P w K mg base N x (defScope st) f cdv A outer s H E).nox (defBody st) t ∧ t { nx := fun _ H' => Q .non H', rt := Q } (start N vs) H) : Says P w K mg base (k + 1) x ps sp := by
  obtain ⟨f, fd, F, hm, b⟩ := h
  exact ⟨f, fd, F.ok S len fun cdv A outer s H vs Q E => body f cdv A outer s H vs Q E, hm, F.kp, b⟩
theorem saysK {ks : List Str} {g : {α : Type} → List α → List α} (h : HasK K mg x st ps ks g) (S : FnScope N ps (defScope st)) (len : ∀ vs H Q E, sp vs H Q E → vs.length = ps.length) (body : Body P w K mg base k x st N sp) : SaysK P w K mg base (k + 1) x ps ks g sp := by
  obtain ⟨f, fd, F, hm, b⟩ := h
  exact ⟨f, fd, F.ok S len fun cdv A outer s H vs Q E => body f cdv A outer s H vs Q E, hm, F.kp, b⟩
/-- one, and two turned about -/
theorem kb1 {fd : FuncData} {p : Str} (h : ∀ v : Value, bindArgs fd ⟨[], [(p, v)]⟩ = pure [(p, v)]) : KBinds K fd [p] [p] (kOnly fun l => l) (kOnly fun l => l) where
  to := fun s us ws _ hl => match us, ws, hl with
    | [], [v], _ => .of_eq (h v)
  rel := fun {vs us zs ws} r1 r2 => by
    cases r1 with
    | nil => exact r2
    | cons _ _ => exact .nil
theorem vals_rev {vs : List V} {us : List Value} (r : Vals vs us) : Vals vs.reverse us.reverse := by
  induction r with
  | nil => exact .nil
  | cons h _ ih =>
    rw [List.reverse_cons, List.reverse_cons]
    exact ih.append (.cons h .nil)
theorem kb2 {fd : FuncData} {p q : Str} (h : ∀ u v : Value, bindArgs fd ⟨[], [(q, u), (p, v)]⟩ = pure [(p, v), (q, u)]) : KBinds K fd [p, q] [q, p] (kOnly List.reverse) (kOnly List.reverse) where
  to := fun s us ws _ hl => match us, ws, hl with
    | [], [u, v], _ => .of_eq (h u v)
    | [], [], hl => nomatch hl
    | [], [_], hl => nomatch hl
    | [], _ :: _ :: _ :: _, hl => by
      have z : (List.reverse (_ :: _ :: _ :: _) : List Value).length = 2 := hl
      rw [List.length_reverse] at z
      simp at z
  rel := fun {vs us zs ws} r1 r2 => by
    cases r1 with
    | nil => exact vals_rev r2
    | cons _ _ => exact .nil
theorem hasK {ks : List Str} {gk : {α : Type} → List α → List α} {f : Addr} {oc : Value} {od an : Option Addr} {osl : Array (Option Value)} {kV doc pm cdv ct : Value} {h : Heap} (X : K.In h) (G : h.Ns mainGlobals mg) (a : PySem.W.nsIn K mainGlobals x = some (some (.ref f)))
    (l : K.lookup f = some ⟨oc, od, .func (PySem.W.fnOf x x (defArgs st) (defBody st) (defScope st) .none kV doc pm an cdv ct), osl⟩) (c : PySem.W.codeIn K cdv x = true) (kp : PySem.W.keepIn K (.ref f) = true)
    (b : KBinds K (PySem.W.fnOf x x (defArgs st) (defBody st) (defScope st) .none kV doc pm an cdv ct) ps ks (kOnly gk) (kOnly gk)) :
    HasK K mg x st ps ks gk := ⟨f, _, fun_mk l c kp, PySem.W.mg_of X G a, b⟩
theorem saysG (h : Has K mg x st ps) (S : FnScope N ps (defScope st)) (len : ∀ vs H Q E, sp vs H Q E → vs.length = ps.length)
    (body : ∀ (f : Addr) (cdv : Value) (A : Around) (outer : List Env) (s : Shared) (H : Hp) (vs : List V) (Q : VK) (E : XK), A.guards = some [] → Room k (A.deeper (envOfC x (defScope st) s.heap.objs.size f cdv)) → sp vs H Q E →
      ∃ t, PSs (cxOf CX0 P w K mg base N x (defScope st) f cdv A outer s H E).nox (defBody st) t ∧ t { nx := fun _ H' => Q .non H', rt := Q } (start N vs) H) : SaysG P w K mg base (k + 1) x ps sp := by
  obtain ⟨f, fd, F, hm, b⟩ := h
  exact ⟨f, fd, fun_g F S len fun cdv A outer s H vs Q E ga hr h => (body f cdv A outer s H vs Q E ga hr h).imp fun _ z => ⟨z.1.nox, z.2⟩, hm, F.kp, b⟩
theorem fnG {f : Addr} {fd : FuncData} (F : Fun K x x st f fd) (S : FnScope N ps (defScope st)) (len : ∀ vs H Q E, sp vs H Q E → vs.length = ps.length)
    (body : ∀ (f : Addr) (cdv : Value) (A : Around) (outer : List Env) (s : Shared) (H : Hp) (vs : List V) (Q : VK) (E : XK), A.guards = some [] → Room k (A.deeper (envOfC x (defScope st) s.heap.objs.size f cdv)) → sp vs H Q E →
      ∃ t, PSs (cxOf CX0 P w K mg base N x (defScope st) f cdv A outer s H E).nox (defBody st) t ∧ t { nx := fun _ H' => Q .non H', rt := Q } (start N vs) H) : FnG P w K mg base CX0 (k + 1) f fd ps sp :=
  fun_g F S len fun cdv A outer s H vs Q E ga hr h => (body f cdv A outer s H vs Q E ga hr h).imp fun _ z => ⟨z.1.nox, z.2⟩
theorem Says.imp {sp' : Sp} (c : Says P w K mg base k x ps sp) (h : ∀ vs H Q E, sp' vs H Q E → sp vs H Q E) : Says P w K mg base k x ps sp' := by
  obtain ⟨f, fd, F, hm, kp, b⟩ := c
  exact ⟨f, fd, F.imp h, hm, kp, b⟩
end
section
variable {X : Cx} {k j : Nat} {x : Str} {ps ks : List Str} {sp : Sp} {p pos : Pos} {e : Expr} {es : List Expr} {t tk : TA} {kws : List Keyword} {g : {α : Type} → List α → List α}
theorem pe_s (c : Says X.prog X.w X.K X.mg X.base k x ps sp) (hr : Room j X.A) (ha : PA X (e :: es) t) (le : k ≤ j := by decide) (gl : Gl X x := by rfl) (nd : (x == ("__debug__" : Str)) = false := by decide)
    (se : starEach (e :: es) X.env = (false, eval e X.env) :: starEach es X.env := by rfl) (pl : (backTo pos (starEach es X.env)).any (·.1) = false := by rfl) : PE X (.Call (.Name x p) (e :: es) [] pos) (tCall sp [] E0 t) := by
  obtain ⟨f, fd, F, hm, kp, b⟩ := c
  exact pe_call F (hr.mono le) gl hm kp b .nil pass0 ha nd se pl
theorem pe_g (c : SaysG X.prog X.w X.K X.mg X.base k x ps sp) (ga : X.A.guards = some []) (hr : Room j X.A) (ha : PA X (e :: es) t) (le : k ≤ j := by decide) (gl : Gl X x := by rfl) (nd : (x == ("__debug__" : Str)) = false := by decide)
    (se : starEach (e :: es) X.env = (false, eval e X.env) :: starEach es X.env := by rfl) (pl : (backTo pos (starEach es X.env)).any (·.1) = false := by rfl) : PE X (.Call (.Name x p) (e :: es) [] pos) (tCall sp [] E0 t) := by
  obtain ⟨f, fd, F, hm, kp, b⟩ := c
  exact pe_callG F ga (hr.mono le) gl hm kp b .nil pass0 ha nd se pl
theorem pe_k0 (c : SaysK X.prog X.w X.K X.mg X.base k x ps ks g sp) (hr : Room j X.A) (hk : PK X kws tk) (le : k ≤ j := by decide) (gl : Gl X x := by rfl)
    (named : (backToKw pos (keywordEach kws X.env)).all (·.1.isSome) = true := by rfl) (names : (backToKw pos (keywordEach kws X.env)).filterMap (·.1) = ks := by rfl) (nd : (x == ("__debug__" : Str)) = false := by decide)
    (pl : ((backTo pos (starEach [] X.env)).any (·.1) || (backToKw pos (keywordEach kws X.env)).any (·.1.isNone)) = false := by rfl) : PE X (.Call (.Name x p) [] kws pos) (tCallK sp (kOnly g) E0 tNil tk) := by
  obtain ⟨f, fd, F, hm, kp, b⟩ := c
  exact pe_callK0 F (hr.mono le) gl hm kp b pass0 hk named names nd pl
end
/-! ### heaps -/
theorem upd_self {H : Hp} {a : Addr} {o : HO} (h : H a = some o) : upd H a o = H := by
  funext b
  by_cases q : b = a
  · rw [q, upd_same, h]
  · rw [upd_ne q]
theorem same_new {H : Hp} {p : Addr} {o : HO} (h : H p = none) : Same H (upd H p o) := fun b u e => by
  rw [upd_ne (ne_of_none e h)]
  exact e
end Cb
set_option Elab.async false
set_option linter.all false
set_option maxRecDepth 100000
set_option maxHeartbeats 4000000
namespace Cb
open PySem PySem.Spec PyProof.Rows L2
def topS (i : Nat) : Stmt := PySem.Challenge.pw_cellbills_k02_numbers_and_their_deeds.main.body.getD i (.Pass ⟨0, 0, 0, 0⟩)
abbrev s_l_hash : Stmt := topS 28
theorem sc_l_hash : FnScope ["_law_seed", "_law_index", "_law_mixed"] ["_law_seed", "_law_index"] (defScope s_l_hash) := ⟨rfl, rfl, rfl, by decide +kernel, rfl, by decide +kernel, by decide +kernel⟩
abbrev s_l_random : Stmt := topS 29
theorem sc_l_random : FnScope ["_law_generator_here", "_law_bound", "_law_drawn", "_law_turn"] ["_law_generator_here", "_law_bound"] (defScope s_l_random) := ⟨rfl, rfl, rfl, by decide +kernel, rfl, by decide +kernel, by decide +kernel⟩
abbrev s_l_cell : Stmt := topS 30
theorem sc_l_cell : FnScope ["_law_script", "_law_index"] ["_law_script", "_law_index"] (defScope s_l_cell) := ⟨rfl, rfl, rfl, by decide +kernel, rfl, by decide +kernel, by decide +kernel⟩
abbrev s_l_generator : Stmt := topS 31
theorem sc_l_generator : FnScope ["_law_script", "_law_index", "_law_seed"] ["_law_script", "_law_index"] (defScope s_l_generator) := ⟨rfl, rfl, rfl, by decide +kernel, rfl, by decide +kernel, by decide +kernel⟩
structure TGen (K : PySem.W.Frag) (mg : Str → Option Value) : Prop where
  d_l_hash : Has K mg "_law_hash" s_l_hash ["_law_seed", "_law_index"]
  d_l_random : Has K mg "_law_random" s_l_random ["_law_generator_here", "_law_bound"]
  d_l_cell : Has K mg "_law_cell" s_l_cell ["_law_script", "_law_index"]
  d_l_generator : Has K mg "_law_generator" s_l_generator ["_law_script", "_law_index"]
  b_int : mg "int" = none
  b_range : mg "range" = none
  b_len : mg "len" = none
  b_sum : mg "sum" = none
  b_max : mg "max" = none
/-- a generator: three numbers -/
def gen (a s t : Int) : HO := .lst [.int a, .int s, .int t]
local macro_rules | `(tactic| walk_at "rd1") => `(tactic| first
  | with_reducible_and_instances refine ⟨_, rfl, ?_⟩
  | refine ⟨_, rfl, ?_⟩
  | refine ⟨_, _, rfl, rfl, ?_⟩
  | refine .inl ⟨_, rfl, ?_⟩
  | (refine ⟨by first | decide | omega | exact .inl (by decide) | exact .inr (by decide) | exact .inl (by omega) | exact .inr (by omega) | exact ⟨by decide, by decide⟩, ?_⟩))
local macro_rules | `(tactic| walk_at "rd") => `(tactic| repeat walk_at "rd1")
section
variable {P : Program} {w : World} {K : PySem.W.Frag} {mg : Str → Option Value} {base : Heap}
def sp_l_hash : Sp := fun vs H Q _ => ∃ s i : Int, vs = [.int s, .int i] ∧ 0 ≤ i ∧ i < 2 ^ 63 ∧ ∀ r : Int, Q (.int r) H
theorem mod_in {m b : Int} (h : 0 < b) : 0 ≤ m % b ∧ m % b < b := ⟨Int.emod_nonneg _ (by omega), Int.emod_lt_of_pos _ h⟩
theorem cut_first (ns : List Int) : cutV (ns.map V.int) none (some 1) = (ns.take 1).map V.int := by
  unfold cutV
  rw [show HT.sIx (ns.map V.int).length 0 none = 0 from HT.sIx_none _ _, show HT.sIx (ns.map V.int).length (ns.map V.int).length (some 1) = min 1 (ns.map V.int).length from HT.sIx_nat _ _ 1]
  cases ns with
  | nil => rfl
  | cons x r => simp
theorem c_l_hash (T : TGen K mg) : Says P w K mg base 1 "_law_hash" ["_law_seed", "_law_index"] sp_l_hash := by
  refine says T.d_l_hash sc_l_hash (fun vs H Q E h => ?_) (fun f cdv A outer s H vs Q E hr h => ?_)
  · obtain ⟨_, _, rfl, _⟩ := h; rfl
  · refine ⟨_, (pss_cons (ps_set (i := 2) sc_l_hash.nd rfl (.inl rfl) (pe_op op_mod (pe_callTy call_int1 (by rfl) T.b_int (by decide +kernel) (pa_cons (pe_op op_add (pe_op op_add (pe_op op_add (pe_op op_mul (pv 0) pe_int) (pe_op op_mul (pe_op op_mul pe_int (pv 1)) (pv 1))) (pe_op op_mul pe_int (pv 1))) pe_int) pa_nil)) pe_int))
      (pss_cons (ps_set (i := 2) sc_l_hash.nd rfl (.inl rfl) (pe_op op_mod (pe_callTy call_int1 (by rfl) T.b_int (by decide +kernel) (pa_cons (pe_op op_add (pe_op op_add (pe_op op_mul (pv 2) (pv 2)) (pe_op op_mul pe_int (pv 1))) pe_int) pa_nil)) pe_int))
      (pss_one (ps_ret (pe_op op_mod (pe_callTy call_int1 (by rfl) T.b_int (by decide +kernel) (pa_cons (pe_op op_mul (pv 2) pe_int) pa_nil)) pe_int))))), ?_⟩
    obtain ⟨s, i, rfl, h0, h1, q⟩ := h
    walk_at "rd"
    have hm := @mod_in (s * 1140671 + 27644437 * i * i + 131 * i + 19) 2147483629 (by decide)
    generalize (s * 1140671 + 27644437 * i * i + 131 * i + 19) % 2147483629 = m at hm ⊢
    walk_at "rd"
    exact q _

/-- a draw: some number below the bound; the generator goes on -/
def sp_l_random : Sp := fun vs H Q _ => ∃ (p : Addr) (a s t b : Int), vs = [.ref p, .int b] ∧ H p = some (gen a s t) ∧ 0 < b ∧ b.natAbs < 2 ^ 210 ∧ 0 ≤ t ∧ t < 2 ^ 62 ∧
  ∀ r a' t' : Int, 0 ≤ r → r < b → t ≤ t' → t' ≤ t + 8 → Q (.int r) (upd H p (gen a' s t'))
theorem c_l_random (T : TGen K mg) : Says P w K mg base 2 "_law_random" ["_law_generator_here", "_law_bound"] sp_l_random := by
  refine says T.d_l_random sc_l_random (fun vs H Q E h => ?_) (fun f cdv A outer s H vs Q E hr h => ?_)
  · obtain ⟨_, _, _, _, _, rfl, _⟩ := h; rfl
  · refine ⟨_, (pss_cons (ps_if (pt_cmpR op_gt (pe_ix ix_list (pv 0) pe_int (fun _ _ => rfl)) pe_int (nomark _))
        (pss_cons (ps_set (i := 2) sc_l_random.nd rfl (.inl rfl) (pe_op op_mod (pe_callTy call_int1 (by rfl) T.b_int (by decide +kernel) (pa_cons (pe_ix ix_list (pv 0) pe_int (fun _ _ => rfl)) pa_nil)) (pv 1)))
        (pss_cons (ps_asg (pe_op op_fdivA (pe_ix ix_list (pv 0) pe_int (fun _ _ => rfl)) (pv 1)) (pg_sub (pv 0) pe_int set_list))
        (pss_one (ps_ret (pv 2)))))
        pss_nil)
      (pss_cons (ps_set (i := 2) sc_l_random.nd rfl (.inl rfl) pe_int)
      (pss_cons (ps_for PassesOwn.never rfl (pi_range1 (by rfl) T.b_range (pa_cons (pe_op op_add pe_int (pe_op op_fdiv (pe_bits (pv 1)) pe_int)) pa_nil)) (pg_name (i := 3) sc_l_random.nd rfl (.inl rfl))
        (pss_cons (ps_asg (pe_op op_add (pe_ix ix_list (pv 0) pe_int (fun _ _ => rfl)) pe_int) (pg_sub (pv 0) pe_int set_list))
        (pss_one (ps_set (i := 2) sc_l_random.nd rfl (.inl rfl) (pe_op op_add (pe_op op_mul (pv 2) pe_int) (pe_s (c_l_hash T) hr (pa_cons (pe_ix ix_list (pv 0) pe_int (fun _ _ => rfl)) (pa_cons (pe_ix ix_list (pv 0) pe_int (fun _ _ => rfl)) pa_nil))))))))
      (pss_one (ps_ret (pe_op op_mod (pe_callTy call_int1 (by rfl) T.b_int (by decide +kernel) (pa_cons (pv 2) pa_nil)) (pv 1))))))), ?_⟩
    obtain ⟨p, a, s, t, b, rfl, hp, b0, b1, t0, t1, q⟩ := h
    have bl : Builtin.Int.intBits b ≤ 210 := PyProof.Rows.intBits_le b1
    refine ⟨_, rfl, _, _, _, _, rfl, rfl, SqL.of hp, rfl, _, _, rfl, rfl, _, rfl, ite2 (fun _ => ?_) (fun _ => ?_)⟩
    · refine ⟨_, rfl, _, _, _, _, rfl, rfl, SqL.of hp, rfl, .inl ⟨_, rfl, ?_⟩⟩
      refine ⟨_, rfl, _, _, rfl, rfl, b0, ?_⟩
      refine ⟨_, rfl, _, _, _, _, rfl, rfl, SqL.of hp, rfl, _, rfl, _, _, rfl, rfl, ⟨by omega, Nat.lt_of_lt_of_le (PySem.Flt.log2_lt_of (by decide) b1) (by decide)⟩, ?_⟩
      refine ⟨_, rfl, _, _, _, _, rfl, rfl, hp, rfl, ?_⟩
      refine ⟨_, rfl, ?_⟩
      exact q _ _ t (mod_in b0).1 (mod_in b0).2 (by omega) (by omega)
    · refine ⟨_, rfl, _, rfl, _, _, rfl, rfl, ⟨by decide, by decide⟩, _, _, rfl, rfl, _, rfl, ?_, ?_, ?_⟩
      · show -(2 ^ 62) ≤ 1 + ((Builtin.Int.intBits b : Nat) : Int) / 30
        omega
      · show 1 + ((Builtin.Int.intBits b : Nat) : Int) / 30 < 2 ^ 62
        omega
      · refine for_range (lo := 0) (fun i σ H' => ∃ (d t' : Int) (v : Option V), σ = [some (.ref p), some (.int b), some (.int d), v] ∧ t' = t + i ∧ H' = upd H p (gen a s t')) ⟨0, t, none, rfl, by omega, (upd_self hp).symm⟩ ?_ ?_
        · rintro i σ H' hi ⟨d, t', v, rfl, rfl, rfl⟩
          have hi8 : i < (1 + ((Builtin.Int.intBits b : Nat) : Int) / 30).toNat := hi
          refine ⟨_, rfl, _, _, _, _, rfl, rfl, SqL.of upd_same, rfl, _, _, rfl, rfl, ?_⟩
          refine ⟨_, rfl, _, _, _, _, rfl, rfl, upd_same, rfl, ?_⟩
          rw [upd_upd]
          refine ⟨_, rfl, _, _, rfl, rfl, .inr (by decide), ?_⟩
          refine ⟨_, rfl, _, _, _, _, rfl, rfl, SqL.of upd_same, rfl, _, rfl, _, _, _, _, rfl, rfl, SqL.of upd_same, rfl, ?_⟩
          refine ⟨_, _, rfl, by omega, by omega, fun r => ?_⟩
          refine ⟨_, _, rfl, rfl, ?_⟩
          exact ⟨_, t + i + 1, _, rfl, by omega, rfl⟩
        · rintro σ H' ⟨d, t', v, rfl, rfl, rfl⟩
          refine ⟨_, rfl, .inl ⟨_, rfl, ?_⟩⟩
          refine ⟨_, rfl, _, _, rfl, rfl, b0, ?_⟩
          have hn : ((1 + ((Builtin.Int.intBits b : Nat) : Int) / 30).toNat : Int) ≤ 8 := by omega
          exact q _ a _ (mod_in b0).1 (mod_in b0).2 (Int.le_add_of_nonneg_right (Int.natCast_nonneg _)) (Int.add_le_add_left hn t)
def sp_l_cell (K : PySem.W.Frag) : Sp := fun vs H Q _ => ∃ (p : Addr) (ns : List Int) (i : Int), vs = [.ref p, .int i] ∧ SqL K H p (ns.map V.int) ∧ 0 ≤ i ∧ ∀ (r : Int) (H' : Hp), Same H H' → Q (.int r) H'
theorem c_l_cell (T : TGen K mg) : Says P w K mg base 1 "_law_cell" ["_law_script", "_law_index"] (sp_l_cell K) := by
  refine says T.d_l_cell sc_l_cell (fun vs H Q E h => ?_) (fun f cdv A outer s H vs Q E hr h => ?_)
  · obtain ⟨_, _, _, rfl, _⟩ := h; rfl
  · refine ⟨_, (pss_cons (ps_if (pt_cmpR op_lt (pv 1) (pe_callB call_len_seq (by rfl) T.b_len (by decide +kernel) (pa_cons (pv 0) pa_nil)) (nomark _))
        (pss_one (ps_ret (pe_ix ix_list (pv 0) (pv 1) (fun _ _ => rfl))))
        pss_nil)
      (pss_one (ps_ret (pe_op op_mod (pe_callB (cr_sum rfl) (by rfl) T.b_sum (by decide +kernel) (pa_cons (pe_slice sl_list (pv 0) po_none (po_some pe_int)) pa_nil)) pe_int)))), ?_⟩
    obtain ⟨p, ns, i, rfl, hp, i0, q⟩ := h
    refine ⟨_, rfl, _, rfl, _, _, rfl, .inl hp, _, _, rfl, rfl, _, rfl, ite2 (fun lt => ?_) (fun _ => ?_)⟩
    · have lt2 : i < ((ns.map V.int).length : Int) := of_decide_eq_true lt
      rw [List.length_map] at lt2
      have e : atI (ns.map V.int) i = some (.int (ns[i.toNat]'(by omega))) := by
        have z := atI_nat (xs := ns.map V.int) (j := i.toNat) (v := .int (ns[i.toNat]'(by omega))) (by rw [List.getElem?_map, List.getElem?_eq_getElem (by omega)]; rfl)
        rwa [Int.toNat_of_nonneg i0] at z
      refine ⟨_, rfl, _, rfl, _, _, _, _, rfl, rfl, hp, e, ?_⟩
      exact q _ _ (Same.refl _)
    · refine ⟨_, rfl, 1, rfl, _, _, rfl, hp, fun l hl => ?_⟩
      refine ⟨_, (ns.take 1), rfl, ?_, ?_⟩
      · rw [← cut_first]
        exact SqL.of upd_same
      · refine ⟨_, _, rfl, rfl, (show (0 : Int) < 1000003 by decide), ?_⟩
        exact q _ _ (same_new hl)
/-- a new generator -/
def sp_l_generator (K : PySem.W.Frag) : Sp := fun vs H Q _ => ∃ (p : Addr) (ns : List Int) (i : Int), vs = [.ref p, .int i] ∧ SqL K H p (ns.map V.int) ∧ 0 ≤ i ∧ i < 1000 ∧
  ∀ (g : Addr) (a s : Int) (H' : Hp), H g = none → Same H H' → H' g = some (gen a s (1000 * i)) → Q (.ref g) H'
theorem c_l_generator (T : TGen K mg) : Says P w K mg base 2 "_law_generator" ["_law_script", "_law_index"] (sp_l_generator K) := by
  refine says T.d_l_generator sc_l_generator (fun vs H Q E h => ?_) (fun f cdv A outer s H vs Q E hr h => ?_)
  · obtain ⟨_, _, _, rfl, _⟩ := h; rfl
  · refine ⟨_, (pss_cons (ps_set (i := 2) sc_l_generator.nd rfl (.inl rfl) (pe_s (c_l_cell T) hr (pa_cons (pv 0) (pa_cons (pv 1) pa_nil))))
      (pss_one (ps_ret (pe_lst (pa_cons (pe_op op_mod (pe_callTy call_int1 (by rfl) T.b_int (by decide +kernel) (pa_cons (pe_callB (call_max2 rfl) (by rfl) T.b_max (by decide +kernel) (pa_cons (pe_op op_sub (pv 2) (pe_op op_powA pe_int pe_int)) (pa_cons pe_int pa_nil))) pa_nil)) (pe_op op_powA (pe_op op_powA pe_int pe_int) pe_int)) (pa_cons (pe_op op_mod (pe_callTy call_int1 (by rfl) T.b_int (by decide +kernel) (pa_cons (pv 2) pa_nil)) pe_int) (pa_cons (pe_op op_mul pe_int (pv 1)) pa_nil))))))), ?_⟩
    obtain ⟨p, ns, i, rfl, hp, i0, i1, q⟩ := h
    refine ⟨_, rfl, _, rfl, _, _, _, rfl, hp, i0, fun r H1 s1 => ?_⟩
    refine ⟨_, rfl, _, _, rfl, rfl, ⟨by decide, by decide +kernel⟩, _, _, rfl, rfl, ?_⟩
    refine ⟨_, _, rfl, .inl ⟨_, rfl, ?_⟩⟩
    refine ⟨_, _, rfl, rfl, ⟨by decide, by decide +kernel⟩, _, _, rfl, rfl, ⟨by decide, by decide +kernel⟩, ?_⟩
    refine ⟨_, _, rfl, rfl, (show (0 : Int) < ((10 ^ Int.toNat 60) ^ Int.toNat 10) by decide +kernel), ?_⟩
    refine ⟨_, rfl, .inl ⟨_, rfl, _, _, rfl, rfl, (show (0 : Int) < 2147483647 by decide), ?_⟩⟩
    refine ⟨_, rfl, _, _, rfl, rfl, .inl (by decide), ?_⟩
    refine ⟨(show 3 ≤ sizeLine by decide), fun g hg => ?_⟩
    exact q g _ _ _ (s1.free hg) (s1.trans (same_new hg)) upd_same
end
end Cb
set_option Elab.async false
set_option linter.all false
set_option maxRecDepth 100000
set_option maxHeartbeats 4000000
local macro_rules | `(tactic| walk_at "rd1") => `(tactic| first
  | refine ⟨_, rfl, ?_⟩
  | refine ⟨_, _, rfl, rfl, ?_⟩
  | refine .inl ⟨_, rfl, ?_⟩
  | (refine ⟨by first | decide | omega | exact .inl (by decide) | exact .inr (by decide) | exact .inl (by omega) | exact .inr (by omega) | exact ⟨by decide, by decide⟩, ?_⟩))
local macro_rules | `(tactic| walk_at "rd") => `(tactic| repeat walk_at "rd1")
namespace Cb
open PySem PySem.Spec PyProof.Rows L2
/-! ### a list of values made one by one -/
theorem lc_map {K : PySem.W.Frag} {a : Addr} {xs ys : List V} {i : Nat} {te : TE} {σ : L2.St} {H1 : Hp} {D : Addr} {Qd : Hp → Prop} (hL : SqL K H1 a xs) (hD : H1 D = none) (small : xs.length < 1000) (len : ys.length = xs.length)
    (hs : ∀ (j : Nat) (x y : V), xs[j]? = some x → ys[j]? = some y → ∀ (H' : Hp) (Q : VK), Same H1 H' → (∀ H'', Same H' H'' → Q y H'') → te ((wipe σ [i]).set i (some x)) H' Q)
    (hd : ∀ H', Same H1 H' → H' D = some (.lst ys) → Qd H') :
    ∃ W : Nat → Nat → Hp → Prop, (∃ m, W 0 m (upd H1 D (.lst []))) ∧ ∀ n m H, W n m H →
      ((Itl K a).stop n H ∧ Qd H) ∨ ((Itl K a).go n H ∧ ∃ Nx : Hp → Prop, (∀ H', Nx H' → ∃ m', m' < m ∧ W (n + 1) m' H') ∧ ∀ x H', (Itl K a).yld n H x H' → gName i x (wipe σ [i]) H' fun σ2 H2 => wipe σ2 [i] = wipe σ [i] ∧ tYes σ2 H2 fun b H3 =>
        if b = true then te σ2 H3 fun y H4 => ∃ acc, H4 D = some (.lst acc) ∧ acc.length < sizeLine ∧ Nx (upd H4 D (.lst (acc ++ [y]))) else Nx H3) := by
  refine lc_list (xs := xs) (fun j H' => Same H1 H' ∧ H' D = some (.lst (ys.take j))) ⟨same_new hD, upd_same⟩ (fun j H' _ z => z.1.seq hL) ?_ ?_
  · rintro j x H' hx ⟨s1, hd1⟩
    have lt : j < xs.length := (List.getElem?_eq_some_iff.mp hx).1
    have hy : ys[j]? = some ys[j] := List.getElem?_eq_getElem (by omega)
    refine ⟨?_, ?_⟩
    · show ((wipe σ [i]).set i (some x)).set i none = wipe σ [i]
      show ((σ.set i none).set i (some x)).set i none = σ.set i none
      rw [List.set_set, List.set_set]
    · show te ((wipe σ [i]).set i (some x)) H' _
      refine hs j x _ hx hy H' _ s1 ?_
      intro H'' s2
      have e2 := s2 _ _ hd1
      refine ⟨_, e2, ?_, ?_, ?_⟩
      · rw [List.length_take]
        exact Nat.lt_of_le_of_lt (Nat.min_le_right _ _) (by rw [len]; exact small1000 (by omega))
      · intro b o e
        rw [upd_ne (ne_of_none e hD)]
        exact s2 _ _ (s1 _ _ e)
      · rw [upd_same, List.take_add_one, hy]
        rfl
  · rintro H' ⟨s1, hd1⟩
    rw [List.take_of_length_le (by omega)] at hd1
    exact hd H' s1 hd1
/-! ### the numbers of the language -/
abbrev lo : Int := -9223372036854775808
abbrev hi : Int := 9223372036854775807
def InR (i : Int) : Prop := -9223372036854775808 ≤ i ∧ i ≤ 9223372036854775807
def inR (i : Int) : Bool := decide (lo ≤ i) && decide (i ≤ hi)
theorem inR_of {i : Int} (h : InR i) : inR i = true := by
  unfold inR
  rw [decide_eq_true h.1, decide_eq_true h.2]
  rfl
def led (i : Int) : Int := (i - lo) % 18446744073709551616 + lo
theorem pow64 : (2 : Int) ^ Int.toNat 64 = 18446744073709551616 := by decide +kernel
/-! ### the text -/
abbrev s_is_whole : Stmt := topS 9
theorem sc_is_whole : FnScope ["value"] ["value"] (defScope s_is_whole) := ⟨rfl, rfl, rfl, by decide +kernel, rfl, by decide +kernel, by decide +kernel⟩
abbrev s_is_number : Stmt := topS 10
theorem sc_is_number : FnScope ["value"] ["value"] (defScope s_is_number) := ⟨rfl, rfl, rfl, by decide +kernel, rfl, by decide +kernel, by decide +kernel⟩
abbrev s_led_in : Stmt := topS 11
theorem sc_led_in : FnScope ["number"] ["number"] (defScope s_led_in) := ⟨rfl, rfl, rfl, by decide +kernel, rfl, by decide +kernel, by decide +kernel⟩
abbrev s_is_sign : Stmt := topS 12
theorem sc_is_sign : FnScope ["value"] ["value"] (defScope s_is_sign) := ⟨rfl, rfl, rfl, by decide +kernel, rfl, by decide +kernel, by decide +kernel⟩
abbrev s_sign_shape : Stmt := topS 13
theorem sc_sign_shape : FnScope ["sign"] ["sign"] (defScope s_sign_shape) := ⟨rfl, rfl, rfl, by decide +kernel, rfl, by decide +kernel, by decide +kernel⟩
abbrev s_plus : Stmt := topS 14
theorem sc_plus : FnScope ["one", "other"] ["one", "other"] (defScope s_plus) := ⟨rfl, rfl, rfl, by decide +kernel, rfl, by decide +kernel, by decide +kernel⟩
abbrev s_minus : Stmt := topS 15
theorem sc_minus : FnScope ["one", "other"] ["one", "other"] (defScope s_minus) := ⟨rfl, rfl, rfl, by decide +kernel, rfl, by decide +kernel, by decide +kernel⟩
abbrev s_times : Stmt := topS 16
theorem sc_times : FnScope ["one", "other"] ["one", "other"] (defScope s_times) := ⟨rfl, rfl, rfl, by decide +kernel, rfl, by decide +kernel, by decide +kernel⟩
abbrev s_over : Stmt := topS 17
theorem sc_over : FnScope ["one", "other"] ["one", "other"] (defScope s_over) := ⟨rfl, rfl, rfl, by decide +kernel, rfl, by decide +kernel, by decide +kernel⟩
abbrev s_rest : Stmt := topS 18
theorem sc_rest : FnScope ["one", "other"] ["one", "other"] (defScope s_rest) := ⟨rfl, rfl, rfl, by decide +kernel, rfl, by decide +kernel, by decide +kernel⟩
abbrev s_less : Stmt := topS 19
theorem sc_less : FnScope ["one", "other"] ["one", "other"] (defScope s_less) := ⟨rfl, rfl, rfl, by decide +kernel, rfl, by decide +kernel, by decide +kernel⟩
abbrev s_same : Stmt := topS 20
theorem sc_same : FnScope ["one", "other"] ["one", "other"] (defScope s_same) := ⟨rfl, rfl, rfl, by decide +kernel, rfl, by decide +kernel, by decide +kernel⟩
abbrev s_both : Stmt := topS 21
theorem sc_both : FnScope ["one", "other"] ["one", "other"] (defScope s_both) := ⟨rfl, rfl, rfl, by decide +kernel, rfl, by decide +kernel, by decide +kernel⟩
abbrev s_either : Stmt := topS 22
theorem sc_either : FnScope ["one", "other"] ["one", "other"] (defScope s_either) := ⟨rfl, rfl, rfl, by decide +kernel, rfl, by decide +kernel, by decide +kernel⟩
abbrev s_reckoned : Stmt := topS 24
theorem sc_reckoned : FnScope ["sign", "arguments", "work"] ["sign", "arguments"] (defScope s_reckoned) := ⟨rfl, rfl, rfl, by decide +kernel, rfl, by decide +kernel, by decide +kernel⟩
abbrev s_is_wanted_by : Stmt := topS 25
theorem sc_is_wanted_by : FnScope ["sign", "arguments", "kind", "many", "_", "argument"] ["sign", "arguments"] (defScope s_is_wanted_by) := ⟨rfl, rfl, rfl, by decide +kernel, rfl, by decide +kernel, by decide +kernel⟩
abbrev s_done : Stmt := topS 26
theorem sc_done : FnScope ["sign", "arguments"] ["sign", "arguments"] (defScope s_done) := ⟨rfl, rfl, rfl, by decide +kernel, rfl, by decide +kernel, by decide +kernel⟩
/-- a tuple of the written part -/
def KTup (K : PySem.W.Frag) (a : Addr) (xs : List V) : Prop := ∃ (o : Obj) (its : Array Value) (n : Nat), K.lookup a = some o ∧ o.cls = .type "tuple" ∧ o.data = .seq its n ∧ its.size ≤ sizeLine ∧ Vals xs its.toList
theorem KTup.sq {K : PySem.W.Frag} {a : Addr} {xs : List V} (h : KTup K a xs) (H : Hp) : SqT K H a xs := .inr h
/-- the table of the signs: at z its shape -/
def Shape (K : PySem.W.Frag) (d : Addr) (z : Str) (kind : Str) (many : Int) (gives : Str) : Prop := ∃ a : Addr, PySem.W.nsIn K d z = some (some (.ref a)) ∧ KTup K a [.str kind, .int many, .str gives]
structure TNum (K : PySem.W.Frag) (w : World) (mg : Str → Option Value) : Prop where
  d_is_whole : Has K mg "is_whole" s_is_whole ["value"]
  d_is_number : Has K mg "is_number" s_is_number ["value"]
  d_led_in : Has K mg "led_in" s_led_in ["number"]
  d_is_sign : Has K mg "is_sign" s_is_sign ["value"]
  d_sign_shape : Has K mg "sign_shape" s_sign_shape ["sign"]
  d_plus : Has K mg "plus" s_plus ["one", "other"]
  d_minus : Has K mg "minus" s_minus ["one", "other"]
  d_times : Has K mg "times" s_times ["one", "other"]
  d_over : Has K mg "over" s_over ["one", "other"]
  d_rest : Has K mg "rest" s_rest ["one", "other"]
  d_less : Has K mg "less" s_less ["one", "other"]
  d_same : Has K mg "same" s_same ["one", "other"]
  d_both : Has K mg "both" s_both ["one", "other"]
  d_either : Has K mg "either" s_either ["one", "other"]
  d_reckoned : Has K mg "reckoned" s_reckoned ["sign", "arguments"]
  d_is_wanted_by : Has K mg "is_wanted_by" s_is_wanted_by ["sign", "arguments"]
  d_done : Has K mg "done" s_done ["sign", "arguments"]
  k_led_in : HasK K mg "led_in" s_led_in ["number"] ["number"] (fun l => l)
  k_done : HasK K mg "done" s_done ["sign", "arguments"] ["arguments", "sign"] List.reverse
  b_isinstance : mg "isinstance" = none
  b_int : mg "int" = none
  b_bool : mg "bool" = none
  b_str : mg "str" = none
  b_list : mg "list" = none
  b_len : mg "len" = none
  b_all : mg "all" = none
  g_LEAST : ∃ t, mg "LEAST" = some (.int lo t)
  g_GREATEST : ∃ t, mg "GREATEST" = some (.int hi t)
  g_SHAPES : ∃ (d : Addr) (es : Array DictEntry) (n : Nat), mg "SHAPES" = some (.ref d) ∧ KDict K w d es n ∧ (∀ z ∈ (["plus", "minus", "times", "over", "rest"] : List Str), Shape K d z "num" 2 "num") ∧
    (∀ z ∈ (["less", "same"] : List Str), Shape K d z "num" 2 "flag") ∧ (∀ z ∈ (["both", "any"] : List Str), Shape K d z "flag" 2 "flag") ∧ Shape K d "not" "flag" 1 "flag" ∧
    ∀ z ∈ (["", "Plus", "and"] : List Str), PySem.W.nsIn K d z = some none
  g_WORKS : ∃ (d : Addr) (es : Array DictEntry) (n : Nat), mg "WORKS" = some (.ref d) ∧ KDict K w d es n ∧ ∀ p ∈ ([("plus", "plus"), ("minus", "minus"), ("times", "times"), ("over", "over"), ("rest", "rest"), ("less", "less"), ("same", "same"), ("both", "both"), ("any", "either")] : List (Str × Str)),
    ∃ f : Addr, mg p.2 = some (.ref f) ∧ PySem.W.nsIn K d p.1 = some (some (.ref f))
section
variable {P : Program} {w : World} {K : PySem.W.Frag} {mg : Str → Option Value} {base : Heap}
/-- what is a whole number: told by its type -/
def sp_is_whole (K : PySem.W.Frag) : Sp := fun vs H Q _ => ∃ (v : V) (T : String) (b1 b2 : Bool), vs = [v] ∧ TyX K H v (.type T) ∧ kitB T "int" = some b1 ∧ kitB T "bool" = some b2 ∧ Q (.bl (b1 && !b2)) H
theorem c_is_whole (T : TNum K w mg) : Says P w K mg base 1 "is_whole" ["value"] (sp_is_whole K) := by
  refine says T.d_is_whole sc_is_whole (fun vs H Q E h => ?_) (fun f cdv A outer s H vs Q E hr h => ?_)
  · obtain ⟨_, _, _, _, rfl, _⟩ := h; rfl
  · refine ⟨_, (pss_one (ps_ret (pe_and (pe_callB call_isi (by rfl) T.b_isinstance (by decide +kernel) (pa_cons (pv 0) (pa_cons (pe_bltn (v := .ty "int") (by rfl) T.b_int (by decide +kernel) rfl) pa_nil))) (pe_one (pe_not (pe_callB call_isi (by rfl) T.b_isinstance (by decide +kernel) (pa_cons (pv 0) (pa_cons (pe_bltn (v := .ty "bool") (by rfl) T.b_bool (by decide +kernel) rfl) pa_nil)))))))), ?_⟩
    obtain ⟨v, t, b1, b2, rfl, ty, k1, k2, q⟩ := h
    refine ⟨_, rfl, _, _, _, _, _, rfl, .ty _, ty, kit_ty k1, _, rfl, ?_⟩
    cases b1 with
    | false => exact iteF q
    | true => exact iteT ⟨_, rfl, _, _, _, _, _, rfl, .ty _, ty, kit_ty k2, _, rfl, q⟩
def sp_is_number (K : PySem.W.Frag) : Sp := fun vs H Q _ => (∃ i : Int, vs = [.int i] ∧ Q (.bl (inR i)) H) ∨
  ∃ (v : V) (T : String) (b1 b2 : Bool), vs = [v] ∧ TyX K H v (.type T) ∧ kitB T "int" = some b1 ∧ kitB T "bool" = some b2 ∧ (b1 && !b2) = false ∧ Q (.bl false) H
theorem c_is_number (T : TNum K w mg) : Says P w K mg base 2 "is_number" ["value"] (sp_is_number K) := by
  obtain ⟨tl, gl⟩ := T.g_LEAST
  obtain ⟨tg, gg⟩ := T.g_GREATEST
  refine says T.d_is_number sc_is_number (fun vs H Q E h => ?_) (fun f cdv A outer s H vs Q E hr h => ?_)
  · rcases h with ⟨_, rfl, _⟩ | ⟨_, _, _, _, rfl, _⟩ <;> rfl
  · refine ⟨_, (pss_one (ps_ret (pe_and (pe_s (c_is_whole T) hr (pa_cons (pv 0) pa_nil)) (pe_one (pe_chain op_le op_le (pe_glob (v := .int lo) rfl gl ⟨_, rfl⟩) (pv 0) (pe_glob (v := .int hi) rfl gg ⟨_, rfl⟩)))))), ?_⟩
    rcases h with ⟨i, rfl, q⟩ | ⟨v, t, b1, b2, rfl, ty, k1, k2, e, q⟩
    · refine ⟨_, rfl, _, _, true, false, rfl, .base (.int i), by decide +kernel, by decide +kernel, _, rfl, iteT ?_⟩
      refine ⟨_, rfl, _, _, rfl, rfl, _, rfl, ?_⟩
      unfold inR at q
      by_cases h1 : lo ≤ i
      · rw [decide_eq_true h1] at q ⊢
        exact iteT ⟨_, _, rfl, rfl, q⟩
      · rw [decide_eq_false h1] at q ⊢
        exact iteF q
    · refine ⟨_, rfl, _, _, _, _, rfl, ty, k1, k2, _, rfl, ?_⟩
      rw [e]
      exact iteF q
def sp_led_in : Sp := fun vs H Q _ => ∃ i : Int, vs = [.int i] ∧ Q (.int (led i)) H
theorem len_led_in : ∀ vs H Q E, sp_led_in vs H Q E → vs.length = (["number"] : List Str).length := fun vs H Q E h => by
  obtain ⟨_, rfl, _⟩ := h; rfl
theorem b_led_in (T : TNum K w mg) : Body P w K mg base 1 "led_in" s_led_in ["number"] sp_led_in := by
  obtain ⟨tl, gl⟩ := T.g_LEAST
  intro f cdv A outer s H vs Q E hr h
  refine ⟨_, (pss_cons (ps_if (pt_not (pt_val (pe_s (c_is_whole T) hr (pa_cons (pv 0) pa_nil))))
        (pss_one ps_never)
        pss_nil)
      (pss_one (ps_ret (pe_op op_add (pe_op op_mod (pe_op op_sub (pv 0) (pe_glob (v := .int lo) rfl gl ⟨_, rfl⟩)) (pe_op op_powA pe_int pe_int)) (pe_glob (v := .int lo) rfl gl ⟨_, rfl⟩))))), ?_⟩
  obtain ⟨i, rfl, q⟩ := h
  refine ⟨_, rfl, _, _, true, false, rfl, .base (.int i), by decide +kernel, by decide +kernel, _, rfl, iteF ?_⟩
  refine ⟨_, rfl, _, _, rfl, rfl, _, _, rfl, rfl, ⟨by decide, by decide +kernel⟩, _, _, rfl, rfl, (show (0 : Int) < 2 ^ Int.toNat 64 by decide +kernel), _, _, rfl, rfl, ?_⟩
  show Q (.int ((i - lo) % 2 ^ Int.toNat 64 + lo)) H
  rw [pow64]
  exact q
theorem c_led_in (T : TNum K w mg) : Says P w K mg base 2 "led_in" ["number"] sp_led_in := says T.d_led_in sc_led_in len_led_in (b_led_in T)
theorem k_led_in (T : TNum K w mg) : SaysK P w K mg base 2 "led_in" ["number"] ["number"] (fun l => l) sp_led_in := saysK T.k_led_in sc_led_in len_led_in (b_led_in T)

/-! ### what two numbers, or two flags, give -/
def sp_two (g : Int → Int → V) : Sp := fun vs H Q _ => ∃ a b : Int, vs = [.int a, .int b] ∧ InR a ∧ InR b ∧ Q (g a b) H
def sp_flags (g : Bool → Bool → Bool) : Sp := fun vs H Q _ => ∃ a b : Bool, vs = [.bl a, .bl b] ∧ Q (.bl (g a b)) H
def v_over (a b : Int) : V := .int (if b = 0 then 0 else led (a.fdiv b))
def v_rest (a b : Int) : V := .int (if b = 0 then a else a.fmod b)
theorem c_plus (T : TNum K w mg) : Says P w K mg base 3 "plus" ["one", "other"] (sp_two fun a b => .int (led (a + b))) := by
  refine says T.d_plus sc_plus (fun vs H Q E h => ?_) (fun f cdv A outer s H vs Q E hr h => ?_)
  · obtain ⟨_, _, rfl, _⟩ := h; rfl
  · refine ⟨_, (pss_one (ps_ret (pe_s (c_led_in T) hr (pa_cons (pe_op op_add (pv 0) (pv 1)) pa_nil)))), ?_⟩
    obtain ⟨a, b, rfl, _, _, q⟩ := h
    exact ⟨_, rfl, _, rfl, _, _, rfl, rfl, _, rfl, q⟩
theorem c_minus (T : TNum K w mg) : Says P w K mg base 3 "minus" ["one", "other"] (sp_two fun a b => .int (led (a - b))) := by
  refine says T.d_minus sc_minus (fun vs H Q E h => ?_) (fun f cdv A outer s H vs Q E hr h => ?_)
  · obtain ⟨_, _, rfl, _⟩ := h; rfl
  · refine ⟨_, (pss_one (ps_ret (pe_s (c_led_in T) hr (pa_cons (pe_op op_sub (pv 0) (pv 1)) pa_nil)))), ?_⟩
    obtain ⟨a, b, rfl, _, _, q⟩ := h
    exact ⟨_, rfl, _, rfl, _, _, rfl, rfl, _, rfl, q⟩
theorem c_times (T : TNum K w mg) : Says P w K mg base 3 "times" ["one", "other"] (sp_two fun a b => .int (led (a * b))) := by
  refine says T.d_times sc_times (fun vs H Q E h => ?_) (fun f cdv A outer s H vs Q E hr h => ?_)
  · obtain ⟨_, _, rfl, _⟩ := h; rfl
  · refine ⟨_, (pss_one (ps_ret (pe_s (c_led_in T) hr (pa_cons (pe_op op_mul (pv 0) (pv 1)) pa_nil)))), ?_⟩
    obtain ⟨a, b, rfl, ha, _, q⟩ := h
    have h1 := ha.1
    have h2 := ha.2
    exact ⟨_, rfl, _, rfl, _, _, rfl, rfl, .inl ⟨by omega, by omega⟩, _, rfl, q⟩
theorem log_in {b : Int} (h : InR b) : b.natAbs.log2 < 9000 := by
  have h1 := h.1
  have h2 := h.2
  exact Nat.lt_of_lt_of_le (PySem.Flt.log2_lt_of (by decide) (show b.natAbs < 2 ^ 65 by omega)) (by decide)
theorem c_over (T : TNum K w mg) : Says P w K mg base 3 "over" ["one", "other"] (sp_two v_over) := by
  refine says T.d_over sc_over (fun vs H Q E h => ?_) (fun f cdv A outer s H vs Q E hr h => ?_)
  · obtain ⟨_, _, rfl, _⟩ := h; rfl
  · refine ⟨_, (pss_one (ps_ret (pe_ifExp (pt_cmpR op_eq (pv 1) pe_int (nomark _)) pe_int (pe_s (c_led_in T) hr (pa_cons (pe_op op_fdivA (pv 0) (pv 1)) pa_nil))))), ?_⟩
    obtain ⟨a, b, rfl, ha, hb, q⟩ := h
    unfold v_over at q
    refine ⟨_, rfl, rfl, _, rfl, ite2 (fun z => ?_) (fun z => ?_)⟩
    · have e : b = 0 := V.int.inj (of_decide_eq_true z)
      rw [if_pos e] at q
      exact q
    · have e : ¬ b = 0 := fun y => z (decide_eq_true (congrArg V.int y))
      rw [if_neg e] at q
      exact ⟨_, rfl, _, rfl, _, _, rfl, rfl, ⟨e, log_in hb⟩, _, rfl, q⟩
theorem c_rest (T : TNum K w mg) : Says P w K mg base 3 "rest" ["one", "other"] (sp_two v_rest) := by
  refine says T.d_rest sc_rest (fun vs H Q E h => ?_) (fun f cdv A outer s H vs Q E hr h => ?_)
  · obtain ⟨_, _, rfl, _⟩ := h; rfl
  · refine ⟨_, (pss_one (ps_ret (pe_ifExp (pt_cmpR op_eq (pv 1) pe_int (nomark _)) (pv 0) (pe_op op_modN (pv 0) (pv 1))))), ?_⟩
    obtain ⟨a, b, rfl, ha, hb, q⟩ := h
    unfold v_rest at q
    refine ⟨_, rfl, rfl, _, rfl, ite2 (fun z => ?_) (fun z => ?_)⟩
    · have e : b = 0 := V.int.inj (of_decide_eq_true z)
      rw [if_pos e] at q
      exact ⟨_, rfl, q⟩
    · have e : ¬ b = 0 := fun y => z (decide_eq_true (congrArg V.int y))
      rw [if_neg e] at q
      exact ⟨_, rfl, _, rfl, _, _, rfl, rfl, e, q⟩
theorem c_less (T : TNum K w mg) : Says P w K mg base 3 "less" ["one", "other"] (sp_two fun a b => .bl (decide (a < b))) := by
  refine says T.d_less sc_less (fun vs H Q E h => ?_) (fun f cdv A outer s H vs Q E hr h => ?_)
  · obtain ⟨_, _, rfl, _⟩ := h; rfl
  · refine ⟨_, (pss_one (ps_ret (pe_cmpR op_lt (pv 0) (pv 1) (nomark _)))), ?_⟩
    obtain ⟨a, b, rfl, _, _, q⟩ := h
    exact ⟨_, rfl, _, rfl, _, _, rfl, rfl, q⟩
theorem c_same (T : TNum K w mg) : Says P w K mg base 3 "same" ["one", "other"] (sp_two fun a b => .bl (decide (V.int a = V.int b))) := by
  refine says T.d_same sc_same (fun vs H Q E h => ?_) (fun f cdv A outer s H vs Q E hr h => ?_)
  · obtain ⟨_, _, rfl, _⟩ := h; rfl
  · refine ⟨_, (pss_one (ps_ret (pe_cmpR op_eq (pv 0) (pv 1) (nomark _)))), ?_⟩
    obtain ⟨a, b, rfl, _, _, q⟩ := h
    exact ⟨_, rfl, _, rfl, rfl, q⟩
theorem c_both (T : TNum K w mg) : Says P w K mg base 3 "both" ["one", "other"] (sp_flags fun a b => a && b) := by
  refine says T.d_both sc_both (fun vs H Q E h => ?_) (fun f cdv A outer s H vs Q E hr h => ?_)
  · obtain ⟨_, _, rfl, _⟩ := h; rfl
  · refine ⟨_, (pss_one (ps_ret (pe_and (pv 0) (pe_one (pv 1))))), ?_⟩
    obtain ⟨a, b, rfl, q⟩ := h
    refine ⟨_, rfl, _, rfl, ?_⟩
    cases a with
    | true => exact iteT ⟨_, rfl, q⟩
    | false => exact iteF q
theorem c_either (T : TNum K w mg) : Says P w K mg base 3 "either" ["one", "other"] (sp_flags fun a b => a || b) := by
  refine says T.d_either sc_either (fun vs H Q E h => ?_) (fun f cdv A outer s H vs Q E hr h => ?_)
  · obtain ⟨_, _, rfl, _⟩ := h; rfl
  · refine ⟨_, (pss_one (ps_ret (pe_or (pv 0) (pe_one (pv 1))))), ?_⟩
    obtain ⟨a, b, rfl, q⟩ := h
    refine ⟨_, rfl, _, rfl, ?_⟩
    cases a with
    | true => exact iteT q
    | false => exact iteF ⟨_, rfl, q⟩
/-! ### signs -/
def sp_is_sign (K : PySem.W.Frag) (d : Addr) : Sp := fun vs H Q _ => (∃ (z : Str) (r : Option Value), vs = [.str z] ∧ PySem.W.nsIn K d z = some r ∧ Q (.bl r.isSome) H) ∨
  ∃ (v : V) (T : String), vs = [v] ∧ TyX K H v (.type T) ∧ kitB T "str" = some false ∧ Q (.bl false) H
theorem c_is_sign (T : TNum K w mg) {d : Addr} {es : Array DictEntry} {n : Nat} (g : mg "SHAPES" = some (.ref d)) (D : KDict K w d es n) : Says P w K mg base 1 "is_sign" ["value"] (sp_is_sign K d) := by
  refine says T.d_is_sign sc_is_sign (fun vs H Q E h => ?_) (fun f cdv A outer s H vs Q E hr h => ?_)
  · rcases h with ⟨_, _, rfl, _⟩ | ⟨_, _, rfl, _⟩ <;> rfl
  · refine ⟨_, (pss_one (ps_ret (pe_and (pe_callB call_isi (by rfl) T.b_isinstance (by decide +kernel) (pa_cons (pv 0) (pa_cons (pe_bltn (v := .ty "str") (by rfl) T.b_str (by decide +kernel) rfl) pa_nil))) (pe_one (pe_cmpR (op_in_kd D) (pv 0) (pe_glob (v := .ref d) rfl g rfl) (by rfl)))))), ?_⟩
    rcases h with ⟨z, r, rfl, e, q⟩ | ⟨v, t, rfl, ty, k, q⟩
    · exact ⟨_, rfl, _, _, _, _, true, rfl, .ty _, .base (.str z), kit_ty (by decide +kernel), _, rfl, iteT ⟨_, rfl, _, _, rfl, rfl, e, q⟩⟩
    · exact ⟨_, rfl, _, _, _, _, _, rfl, .ty _, ty, kit_ty k, _, rfl, iteF q⟩
def sp_sign_shape (K : PySem.W.Frag) (d : Addr) : Sp := fun vs H Q _ => ∃ (z kind gives : Str) (many : Int), vs = [.str z] ∧ Shape K d z kind many gives ∧ ∀ a, KTup K a [.str kind, .int many, .str gives] → Q (.ref a) H
theorem c_sign_shape (T : TNum K w mg) {d : Addr} {es : Array DictEntry} {n : Nat} (g : mg "SHAPES" = some (.ref d)) (D : KDict K w d es n) : Says P w K mg base 1 "sign_shape" ["sign"] (sp_sign_shape K d) := by
  refine says T.d_sign_shape sc_sign_shape (fun vs H Q E h => ?_) (fun f cdv A outer s H vs Q E hr h => ?_)
  · obtain ⟨_, _, _, _, rfl, _⟩ := h; rfl
  · refine ⟨_, (pss_one (ps_ret (pe_ix ix_kdict (pe_glob (v := .ref d) rfl g rfl) (pv 0) (fun _ _ => rfl)))), ?_⟩
    obtain ⟨z, kind, gives, many, rfl, ⟨a, e, t⟩, q⟩ := h
    exact ⟨_, rfl, _, _, .ref a, rfl, rfl, ⟨es, n, _, D.at_, D.lit, e, rfl⟩, q a t⟩
end
end Cb
set_option Elab.async false
set_option linter.all false
set_option maxRecDepth 100000
set_option maxHeartbeats 4000000
namespace Cb
open PySem PySem.Spec PyProof.Rows L2
/-! ### a name of one's own that holds a def -/
section
variable {X : Cx} {i k j : Nat} {f : Addr} {x y : Str} {ps : List Str} {sp : Sp} {p pos : Pos} {e : Expr} {es : List Expr} {t : TA}
theorem pe_l (c : Says X.prog X.w X.K X.mg X.base k x ps sp) (hm : X.mg x = some (.ref f)) (hr : Room j X.A) (hN : X.N[i]? = some y) (hv : Vis X.env.scope y) (ha : PA X (e :: es) t) (le : k ≤ j := by decide)
    (n1 : (y == ("__debug__" : Str)) = false := by decide) (n2 : (y == ("__classdict__" : Str)) = false := by decide)
    (se : starEach (e :: es) X.env = (false, eval e X.env) :: starEach es X.env := by rfl) (pl : (backTo pos (starEach es X.env)).any (·.1) = false := by rfl) : PE X (.Call (.Name y p) (e :: es) [] pos) (tCallL i f sp [] E0 t) := by
  obtain ⟨f', fd, F, hm', kp, b⟩ := c
  obtain rfl : f' = f := Value.ref.inj (Option.some.inj (hm'.symm.trans hm))
  exact pe_callL F (hr.mono le) hN hv kp b .nil pass0 ha n1 n2 se pl
end
/-! ### types stay -/
theorem ty_same {K : PySem.W.Frag} {H H' : Hp} {x : V} {t : Value} (s : Same H H') (h : TyX K H x t) : TyX K H' x t := by
  cases h with
  | base b =>
    refine .base ?_
    cases b with
    | non => exact .non
    | bl y => exact .bl y
    | int i => exact .int i
    | str y => exact .str y
    | flt y => exact .flt y
    | lst e => exact .lst (s _ _ e)
    | frz e => exact .frz (s _ _ e)
    | tup e => exact .tup (s _ _ e)
    | dK e => exact .dK (s _ _ e)
    | dT e => exact .dT (s _ _ e)
    | ins e cl ha hn htk hm => exact .ins (s _ _ e) cl ha hn htk hm
  | byt b => exact .byt b
  | set e => exact .set (s _ _ e)
  | kList e c => exact .kList e c
  | kTuple e c => exact .kTuple e c
  | kDict e c => exact .kDict e c
  | fTuple e => exact .fTuple (s _ _ e)
  | fDict e => exact .fDict (s _ _ e)
/-- what is_number says of a value; what isinstance(x, bool) says -/
def NumJ (K : PySem.W.Frag) (H : Hp) (x : V) (b : Bool) : Prop := (∃ i : Int, x = .int i ∧ b = inR i) ∨
  ∃ (T : String) (b1 b2 : Bool), TyX K H x (.type T) ∧ kitB T "int" = some b1 ∧ kitB T "bool" = some b2 ∧ (b1 && !b2) = false ∧ b = false
def FlagJ (K : PySem.W.Frag) (H : Hp) (x : V) (b : Bool) : Prop := ∃ T : String, TyX K H x (.type T) ∧ kitB T "bool" = some b
section
variable {P : Program} {w : World} {K : PySem.W.Frag} {mg : Str → Option Value} {base : Heap}
def sp_is_wanted_by (K : PySem.W.Frag) (d : Addr) : Sp := fun vs H Q _ => ∃ (z kind gives : Str) (many : Int) (v : V), vs = [.str z, v] ∧ Shape K d z kind many gives ∧
  ((∃ T : String, TyX K H v (.type T) ∧ kitB T "list" = some false ∧ Q (.bl false) H) ∨
   (∃ (p : Addr) (xs : List V), v = .ref p ∧ H p = some (.lst xs) ∧ (xs.length : Int) ≠ many ∧ Q (.bl false) H) ∨
   ∃ (p : Addr) (xs : List V) (bs : List Bool), v = .ref p ∧ H p = some (.lst xs) ∧ (xs.length : Int) = many ∧ xs.length < 1000 ∧ bs.length = xs.length ∧
     ((kind = "num" ∧ ∀ (j : Nat) (x : V) (b : Bool), xs[j]? = some x → bs[j]? = some b → NumJ K H x b) ∨ (kind = "flag" ∧ ∀ (j : Nat) (x : V) (b : Bool), xs[j]? = some x → bs[j]? = some b → FlagJ K H x b)) ∧
     ∀ H', Same H H' → Q (.bl (bs.all id)) H')
theorem c_is_wanted_by (T : TNum K w mg) {d : Addr} {es : Array DictEntry} {n : Nat} (g : mg "SHAPES" = some (.ref d)) (D : KDict K w d es n) : Says P w K mg base 3 "is_wanted_by" ["sign", "arguments"] (sp_is_wanted_by K d) := by
  refine says T.d_is_wanted_by sc_is_wanted_by (fun vs H Q E h => ?_) (fun f cdv A outer s H vs Q E hr h => ?_)
  · obtain ⟨_, _, _, _, _, rfl, _⟩ := h; rfl
  · refine ⟨_, (pss_cons (ps_asg (pe_s (c_sign_shape T g D) hr (pa_cons (pv 0) pa_nil)) (pg_tup rfl (pgs_cons (pg_name (i := 2) sc_is_wanted_by.nd rfl (.inl rfl)) (pgs_cons (pg_name (i := 3) sc_is_wanted_by.nd rfl (.inl rfl)) (pgs_cons (pg_name (i := 4) sc_is_wanted_by.nd rfl (.inl rfl)) pgs_nil)))))
      (pss_cons (ps_if (PW.pt (pw_or (pt_not (pt_val (pe_callB call_isi (by rfl) T.b_isinstance (by decide +kernel) (pa_cons (pv 1) (pa_cons (pe_bltn (v := .ty "list") (by rfl) T.b_list (by decide +kernel) rfl) pa_nil))))) (pw_or1 (pt_cmpR op_ne (pe_callB call_len_seq (by rfl) T.b_len (by decide +kernel) (pa_cons (pv 1) pa_nil)) (pv 3) (nomark _)))))
        (pss_one (ps_ret pe_bl))
        pss_nil)
      (pss_cons (ps_if (pt_cmpR op_eq (pv 2) pe_str (nomark _))
        (pss_one (ps_ret (pe_callB (cr_all rfl) (by rfl) T.b_all (by decide +kernel) (pa_cons (pe_lc (own := [("argument", 5)]) (g := gName 5) (tt := tYes) rfl sc_is_wanted_by.nd (pi_list (pv 1)) (blkOk_by (N := ["sign", "arguments", "kind", "many", "_", "argument"]) (sc := defScope s_is_wanted_by) (own := [("argument", 5)]) (by decide +kernel)) (fun _ _ _ _ _ => pg_name (i := 5) sc_is_wanted_by.nd rfl (Or.inl rfl)) (fun _ _ _ _ _ => pts_nil) (fun _ _ _ _ _ => pe_s (c_is_number T) hr (pa_cons (pv 5) pa_nil))) pa_nil))))
        pss_nil)
      (pss_one (ps_ret (pe_callB (cr_all rfl) (by rfl) T.b_all (by decide +kernel) (pa_cons (pe_lc (own := [("argument", 5)]) (g := gName 5) (tt := tYes) rfl sc_is_wanted_by.nd (pi_list (pv 1)) (blkOk_by (N := ["sign", "arguments", "kind", "many", "_", "argument"]) (sc := defScope s_is_wanted_by) (own := [("argument", 5)]) (by decide +kernel)) (fun _ _ _ _ _ => pg_name (i := 5) sc_is_wanted_by.nd rfl (Or.inl rfl)) (fun _ _ _ _ _ => pts_nil) (fun _ _ _ _ _ => pe_callB (id := "isinstance") (r := rIsi K) call_isi (by rfl) T.b_isinstance (by decide +kernel) (pa_cons (pv 5) (pa_cons (pe_bltn (v := .ty "bool") (by rfl) T.b_bool (by decide +kernel) rfl) pa_nil)))) pa_nil))))))), ?_⟩
    obtain ⟨z, kind, gives, many, v, rfl, sh, h⟩ := h
    refine ⟨_, rfl, _, _, _, _, rfl, sh, fun a t => ?_⟩
    refine ⟨_, _, rfl, t.sq H, rfl, .str kind, _, rfl, .int many, _, rfl, .str gives, [], rfl, rfl, ?_⟩
    rcases h with ⟨ty, h1, h2, q⟩ | ⟨p, xs, rfl, hp, ne, q⟩ | ⟨p, xs, bs, rfl, hp, en, small, lb, h, q⟩
    · exact ⟨_, rfl, _, _, _, _, false, rfl, .ty _, h1, kit_ty h2, _, rfl, q⟩
    · refine ⟨_, rfl, _, _, _, _, true, rfl, .ty _, .base (.lst hp), kit_ty (by decide +kernel), _, rfl, iteF ?_⟩
      refine ⟨_, rfl, _, _, rfl, .inl (SqL.of hp), _, rfl, rfl, _, rfl, ?_⟩
      have e : decide (V.int (xs.length : Int) = V.int many) = false := decide_eq_false (fun z => ne (V.int.inj z))
      rw [e]
      exact q
    · refine ⟨_, rfl, _, _, _, _, true, rfl, .ty _, .base (.lst hp), kit_ty (by decide +kernel), _, rfl, iteF ?_⟩
      refine ⟨_, rfl, _, _, rfl, .inl (SqL.of hp), _, rfl, rfl, _, rfl, ?_⟩
      have e : decide (V.int (xs.length : Int) = V.int many) = true := decide_eq_true (congrArg V.int en)
      rw [e]
      refine iteF ?_
      have len : (bs.map V.bl).length = xs.length := by rw [List.length_map, lb]
      rcases h with ⟨rfl, h⟩ | ⟨rfl, h⟩
      · refine ⟨_, rfl, rfl, _, rfl, ?_⟩
        rw [decide_eq_true rfl]
        refine iteT ?_
        refine ⟨_, rfl, _, rfl, ⟨_, SqL.of hp⟩, fun D hD => lc_map (xs := xs) (ys := bs.map V.bl) (SqL.of hp) hD small len ?_ ?_⟩
        · intro j x y hx hy H' Q' s1 q'
          rw [List.getElem?_map] at hy
          cases hb : bs[j]? with
          | none =>
            rw [hb] at hy
            cases hy
          | some b =>
            rw [hb] at hy
            obtain rfl : V.bl b = y := Option.some.inj hy
            refine ⟨x, rfl, ?_⟩
            rcases h j x b hx hb with ⟨i, rfl, rfl⟩ | ⟨ty, b1, b2, t1, k1, k2, e0, rfl⟩
            · exact .inl ⟨i, rfl, q' _ (Same.refl _)⟩
            · exact .inr ⟨x, ty, b1, b2, rfl, ty_same s1 t1, k1, k2, e0, q' _ (Same.refl _)⟩
        · intro H' s1 hd
          exact ⟨_, bs, rfl, SqL.of hd, q H' s1⟩
      · refine ⟨_, rfl, rfl, _, rfl, ?_⟩
        rw [show decide (V.str "flag" = V.str "num") = false by decide]
        refine iteF ?_
        refine ⟨_, rfl, _, rfl, ⟨_, SqL.of hp⟩, fun D hD => lc_map (xs := xs) (ys := bs.map V.bl) (SqL.of hp) hD small len ?_ ?_⟩
        · intro j x y hx hy H' Q' s1 q'
          rw [List.getElem?_map] at hy
          cases hb : bs[j]? with
          | none =>
            rw [hb] at hy
            cases hy
          | some b =>
            rw [hb] at hy
            obtain rfl : V.bl b = y := Option.some.inj hy
            obtain ⟨ty, t1, k1⟩ := h j x b hx hb
            exact ⟨x, rfl, _, _, _, _, b, rfl, .ty _, ty_same s1 t1, kit_ty k1, q' _ (Same.refl _)⟩
        · intro H' s1 hd
          exact ⟨_, bs, rfl, SqL.of hd, q H' s1⟩
/-- what a right deed gives -/
inductive Deed : Str → V → V → V → Prop where
  | plus {a b : Int} (ha : InR a) (hb : InR b) : Deed "plus" (.int a) (.int b) (.int (led (a + b)))
  | minus {a b : Int} (ha : InR a) (hb : InR b) : Deed "minus" (.int a) (.int b) (.int (led (a - b)))
  | times {a b : Int} (ha : InR a) (hb : InR b) : Deed "times" (.int a) (.int b) (.int (led (a * b)))
  | over {a b : Int} (ha : InR a) (hb : InR b) : Deed "over" (.int a) (.int b) (v_over a b)
  | rest {a b : Int} (ha : InR a) (hb : InR b) : Deed "rest" (.int a) (.int b) (v_rest a b)
  | less {a b : Int} (ha : InR a) (hb : InR b) : Deed "less" (.int a) (.int b) (.bl (decide (a < b)))
  | same {a b : Int} (ha : InR a) (hb : InR b) : Deed "same" (.int a) (.int b) (.bl (decide (V.int a = V.int b)))
  | both {x y : Bool} : Deed "both" (.bl x) (.bl y) (.bl (x && y))
  | any {x y : Bool} : Deed "any" (.bl x) (.bl y) (.bl (x || y))
/-- the def of a sign, by its name in the table -/
theorem does (T : TNum K w mg) {z : Str} {u v r : V} (d : Deed z u v r) : ∃ (x : Str) (sp : Sp), (z, x) ∈ ([("plus", "plus"), ("minus", "minus"), ("times", "times"), ("over", "over"), ("rest", "rest"), ("less", "less"), ("same", "same"), ("both", "both"), ("any", "either")] : List (Str × Str)) ∧ ¬ z = "not" ∧
    Says P w K mg base 3 x ["one", "other"] sp ∧ ∀ (H : Hp) (Q : VK) (E : XK), Q r H → sp [u, v] H Q E := by
  cases d with
  | plus ha hb => exact ⟨_, _, by decide +kernel, by decide +kernel, c_plus T, fun H Q E q => ⟨_, _, rfl, ha, hb, q⟩⟩
  | minus ha hb => exact ⟨_, _, by decide +kernel, by decide +kernel, c_minus T, fun H Q E q => ⟨_, _, rfl, ha, hb, q⟩⟩
  | times ha hb => exact ⟨_, _, by decide +kernel, by decide +kernel, c_times T, fun H Q E q => ⟨_, _, rfl, ha, hb, q⟩⟩
  | over ha hb => exact ⟨_, _, by decide +kernel, by decide +kernel, c_over T, fun H Q E q => ⟨_, _, rfl, ha, hb, q⟩⟩
  | rest ha hb => exact ⟨_, _, by decide +kernel, by decide +kernel, c_rest T, fun H Q E q => ⟨_, _, rfl, ha, hb, q⟩⟩
  | less ha hb => exact ⟨_, _, by decide +kernel, by decide +kernel, c_less T, fun H Q E q => ⟨_, _, rfl, ha, hb, q⟩⟩
  | same ha hb => exact ⟨_, _, by decide +kernel, by decide +kernel, c_same T, fun H Q E q => ⟨_, _, rfl, ha, hb, q⟩⟩
  | both => exact ⟨_, _, by decide +kernel, by decide +kernel, c_both T, fun H Q E q => ⟨_, _, rfl, q⟩⟩
  | any => exact ⟨_, _, by decide +kernel, by decide +kernel, c_either T, fun H Q E q => ⟨_, _, rfl, q⟩⟩
def sp_reckoned (K : PySem.W.Frag) : Sp := fun vs H Q _ => ∃ (z : Str) (p : Addr), vs = [.str z, .ref p] ∧
  ((z = "not" ∧ ∃ b : Bool, SqL K H p [.bl b] ∧ Q (.bl (!b)) H) ∨ ∃ u v r : V, SqL K H p [u, v] ∧ Deed z u v r ∧ Q r H)
theorem c_reckoned (T : TNum K w mg) : Says P w K mg base 4 "reckoned" ["sign", "arguments"] (sp_reckoned K) := by
  obtain ⟨dW, es, n, gW, DW, allW⟩ := T.g_WORKS
  refine says T.d_reckoned sc_reckoned (fun vs H Q E h => ?_) (fun f cdv A outer s H vs Q E hr h => ?_)
  · obtain ⟨_, _, rfl, _⟩ := h; rfl
  · obtain ⟨z, p, rfl, h⟩ := h
    rcases h with ⟨rfl, b, hp, q⟩ | ⟨u, v, r, hp, d, q⟩
    · refine ⟨_, (pss_cons (ps_if (pt_cmpR op_eq (pv 0) pe_str (nomark _))
        (pss_one (ps_ret (pe_not (pe_ix ix_list (pv 1) pe_int (fun _ _ => rfl)))))
        pss_nil)
      (pss_cons (ps_set (i := 2) sc_reckoned.nd rfl (.inl rfl) (pe_ix ix_kdict (pe_glob (v := .ref dW) rfl gW rfl) (pv 0) (fun _ _ => rfl)))
      (pss_one ps_never))), ?_⟩
      refine ⟨_, rfl, rfl, _, rfl, ?_⟩
      rw [decide_eq_true rfl]
      exact iteT ⟨_, rfl, _, _, _, _, rfl, rfl, hp, rfl, _, rfl, q⟩
    · obtain ⟨x, sp, hx, nn, S, go⟩ := does (P := P) (base := base) T d
      obtain ⟨g, hg, hW⟩ := allW _ hx
      refine ⟨_, (pss_cons (ps_if (pt_cmpR op_eq (pv 0) pe_str (nomark _))
        (pss_one (ps_ret (pe_not (pe_ix ix_list (pv 1) pe_int (fun _ _ => rfl)))))
        pss_nil)
      (pss_cons (ps_set (i := 2) sc_reckoned.nd rfl (.inl rfl) (pe_ix ix_kdict (pe_glob (v := .ref dW) rfl gW rfl) (pv 0) (fun _ _ => rfl)))
      (pss_one (ps_ret (pe_l (i := 2) S hg hr rfl (.inl rfl) (pa_cons (pe_ix ix_list (pv 1) pe_int (fun _ _ => rfl)) (pa_cons (pe_ix ix_list (pv 1) pe_int (fun _ _ => rfl)) pa_nil))))))), ?_⟩
      refine ⟨_, rfl, rfl, _, rfl, ?_⟩
      rw [decide_eq_false (fun y => nn (V.str.inj y))]
      refine iteF ?_
      refine ⟨_, rfl, _, _, .ref g, rfl, rfl, ⟨es, n, _, DW.at_, DW.lit, hW, rfl⟩, ?_⟩
      refine ⟨rfl, _, rfl, _, _, _, _, rfl, rfl, hp, rfl, _, rfl, _, _, _, _, rfl, rfl, hp, rfl, ?_⟩
      exact go _ _ _ q
/-- a right deed; what is met on the way is new -/
def sp_done : Sp := fun vs H Q _ => ∃ (z : Str) (p : Addr), vs = [.str z, .ref p] ∧
  ((z = "not" ∧ ∃ b : Bool, H p = some (.lst [.bl b]) ∧ ∀ H', Same H H' → Q (.bl (!b)) H') ∨ ∃ u v r : V, H p = some (.lst [u, v]) ∧ Deed z u v r ∧ ∀ H', Same H H' → Q r H')
/-- the shape of a right deed's sign -/
theorem shaped (T : TNum K w mg) : ∃ (d : Addr) (es : Array DictEntry) (n : Nat), mg "SHAPES" = some (.ref d) ∧ KDict K w d es n ∧ Shape K d "not" "flag" 1 "flag" ∧ ∀ {z : Str} {u v r : V}, Deed z u v r →
    ∃ kind gives : Str, Shape K d z kind 2 gives ∧ ((kind = "num" ∧ ∃ a b : Int, u = .int a ∧ v = .int b ∧ InR a ∧ InR b) ∨ (kind = "flag" ∧ ∃ x y : Bool, u = .bl x ∧ v = .bl y)) := by
  obtain ⟨d, es, n, g, D, s1, s2, s3, s4, _⟩ := T.g_SHAPES
  refine ⟨d, es, n, g, D, s4, ?_⟩
  intro z u v r e
  cases e with
  | plus ha hb => exact ⟨_, _, s1 _ (by decide +kernel), .inl ⟨rfl, _, _, rfl, rfl, ha, hb⟩⟩
  | minus ha hb => exact ⟨_, _, s1 _ (by decide +kernel), .inl ⟨rfl, _, _, rfl, rfl, ha, hb⟩⟩
  | times ha hb => exact ⟨_, _, s1 _ (by decide +kernel), .inl ⟨rfl, _, _, rfl, rfl, ha, hb⟩⟩
  | over ha hb => exact ⟨_, _, s1 _ (by decide +kernel), .inl ⟨rfl, _, _, rfl, rfl, ha, hb⟩⟩
  | rest ha hb => exact ⟨_, _, s1 _ (by decide +kernel), .inl ⟨rfl, _, _, rfl, rfl, ha, hb⟩⟩
  | less ha hb => exact ⟨_, _, s2 _ (by decide +kernel), .inl ⟨rfl, _, _, rfl, rfl, ha, hb⟩⟩
  | same ha hb => exact ⟨_, _, s2 _ (by decide +kernel), .inl ⟨rfl, _, _, rfl, rfl, ha, hb⟩⟩
  | both => exact ⟨_, _, s3 _ (by decide +kernel), .inr ⟨rfl, _, _, rfl, rfl⟩⟩
  | any => exact ⟨_, _, s3 _ (by decide +kernel), .inr ⟨rfl, _, _, rfl, rfl⟩⟩
theorem len_done : ∀ vs H Q E, sp_done vs H Q E → vs.length = (["sign", "arguments"] : List Str).length := fun vs H Q E h => by
  obtain ⟨_, _, rfl, _⟩ := h; rfl
theorem b_done (T : TNum K w mg) : Body P w K mg base 4 "done" s_done ["sign", "arguments"] sp_done := by
  obtain ⟨d, es, n, g, D, sN, sh⟩ := shaped T
  intro f cdv A outer s H vs Q E hr h
  · refine ⟨_, (pss_cons (ps_if (pt_not (pt_val (pe_s (c_is_sign T g D) hr (pa_cons (pv 0) pa_nil))))
        (pss_one ps_never)
        pss_nil)
      (pss_cons (ps_if (pt_not (pt_val (pe_s (c_is_wanted_by T g D) hr (pa_cons (pv 0) (pa_cons (pv 1) pa_nil)))))
        (pss_one ps_never)
        pss_nil)
      (pss_one (ps_ret (pe_s (c_reckoned T) hr (pa_cons (pv 0) (pa_cons (pv 1) pa_nil))))))), ?_⟩
    obtain ⟨z, p, rfl, h⟩ := h
    rcases h with ⟨rfl, b, hp, q⟩ | ⟨u, v, r, hp, e, q⟩
    · refine ⟨_, rfl, .inl ⟨_, _, rfl, sN.choose_spec.1, _, rfl, iteF ?_⟩⟩
      refine ⟨_, rfl, _, rfl, _, _, _, _, _, rfl, sN, .inr (.inr ⟨_, _, [true], rfl, hp, rfl, by show 1 < 1000; decide, rfl, .inr ⟨rfl, ?_⟩, fun H' s1 => ⟨_, rfl, iteF ?_⟩⟩)⟩
      · intro j x b' hx hb
        match j with
        | 0 =>
          obtain rfl := Option.some.inj hx
          obtain rfl := Option.some.inj hb
          exact ⟨_, .base (.bl b), by decide +kernel⟩
      · exact ⟨_, rfl, _, rfl, _, _, rfl, .inl ⟨rfl, b, SqL.of (s1 _ _ hp), q _ s1⟩⟩
    · obtain ⟨kind, gives, sz, hk⟩ := sh e
      refine ⟨_, rfl, .inl ⟨_, _, rfl, sz.choose_spec.1, _, rfl, iteF ?_⟩⟩
      refine ⟨_, rfl, _, rfl, _, _, _, _, _, rfl, sz, .inr (.inr ⟨_, _, [true, true], rfl, hp, rfl, by show 2 < 1000; decide, rfl, ?_, fun H' s1 => ⟨_, rfl, iteF ?_⟩⟩)⟩
      · rcases hk with ⟨rfl, a, b, rfl, rfl, ha, hb⟩ | ⟨rfl, x, y, rfl, rfl⟩
        · refine .inl ⟨rfl, fun j x b' hx hb' => ?_⟩
          match j with
          | 0 =>
            obtain rfl := Option.some.inj hx
            obtain rfl := Option.some.inj hb'
            exact .inl ⟨a, rfl, (inR_of ha).symm⟩
          | 1 =>
            obtain rfl := Option.some.inj hx
            obtain rfl := Option.some.inj hb'
            exact .inl ⟨b, rfl, (inR_of hb).symm⟩
        · refine .inr ⟨rfl, fun j x b' hx hb' => ?_⟩
          match j with
          | 0 =>
            obtain rfl := Option.some.inj hx
            obtain rfl := Option.some.inj hb'
            exact ⟨_, .base (.bl _), by decide +kernel⟩
          | 1 =>
            obtain rfl := Option.some.inj hx
            obtain rfl := Option.some.inj hb'
            exact ⟨_, .base (.bl _), by decide +kernel⟩
      · exact ⟨_, rfl, _, rfl, _, _, rfl, .inr ⟨u, v, r, SqL.of (s1 _ _ hp), e, q _ s1⟩⟩
theorem c_done (T : TNum K w mg) : Says P w K mg base 5 "done" ["sign", "arguments"] sp_done := says T.d_done sc_done len_done (b_done T)
theorem k_done (T : TNum K w mg) : SaysK P w K mg base 5 "done" ["sign", "arguments"] ["arguments", "sign"] List.reverse sp_done := saysK T.k_done sc_done len_done (b_done T)
end
end Cb
set_option Elab.async false
set_option linter.all false
set_option maxRecDepth 100000
set_option maxHeartbeats 4000000
namespace Cb
open PySem PySem.Spec PyProof.Rows L2
abbrev s_l_whole : Stmt := topS 32
theorem sc_l_whole : FnScope ["_law_generator_here", "_law_base"] ["_law_generator_here"] (defScope s_l_whole) := ⟨rfl, rfl, rfl, by decide +kernel, rfl, by decide +kernel, by decide +kernel⟩
abbrev s_l_led : Stmt := topS 33
theorem sc_l_led : FnScope ["_law_number_here"] ["_law_number_here"] (defScope s_l_led) := ⟨rfl, rfl, rfl, by decide +kernel, rfl, by decide +kernel, by decide +kernel⟩
abbrev s_l_number : Stmt := topS 34
theorem sc_l_number : FnScope ["_law_generator_here", "_law_base"] ["_law_generator_here"] (defScope s_l_number) := ⟨rfl, rfl, rfl, by decide +kernel, rfl, by decide +kernel, by decide +kernel⟩
abbrev s_l_due : Stmt := topS 35
theorem sc_l_due : FnScope ["_law_sign", "_law_one", "_law_other"] ["_law_sign", "_law_one", "_law_other"] (defScope s_l_due) := ⟨rfl, rfl, rfl, by decide +kernel, rfl, by decide +kernel, by decide +kernel⟩
structure TLaw (K : PySem.W.Frag) (w : World) (mg : Str → Option Value) : Prop where
  tg : TGen K mg
  tn : TNum K w mg
  d_l_whole : Has K mg "_law_whole" s_l_whole ["_law_generator_here"]
  d_l_led : Has K mg "_law_led" s_l_led ["_law_number_here"]
  d_l_number : Has K mg "_law_number" s_l_number ["_law_generator_here"]
  d_l_due : Has K mg "_law_due" s_l_due ["_law_sign", "_law_one", "_law_other"]
  b_repr : mg "repr" = none
section
variable {P : Program} {w : World} {K : PySem.W.Frag} {mg : Str → Option Value} {base : Heap}
/-! ### tests by values that are known -/
theorem ifN {z y : Str} {A B : Prop} (h : ¬ z = y) (b : B) : if decide (V.str z = V.str y) = true then A else B := by
  rw [decide_eq_false (fun e => h (V.str.inj e))]
  exact iteF b
theorem ifY {z y : Str} {A B : Prop} (h : z = y) (a : A) : if decide (V.str z = V.str y) = true then A else B := by
  rw [decide_eq_true (congrArg V.str h)]
  exact iteT a
theorem ifI {i j : Int} {A B : Prop} (y : i = j → A) (n : ¬ i = j → B) : if decide (V.int i = V.int j) = true then A else B := by
  by_cases h : i = j
  · rw [decide_eq_true (congrArg V.int h)]
    exact iteT (y h)
  · rw [decide_eq_false (fun e => h (V.int.inj e))]
    exact iteF (n h)
theorem neN {x : V} {A B : Prop} (b : B) : if (!decide (x = x)) = true then A else B := by
  rw [decide_eq_true rfl]
  exact iteF b
/-! ### drawing from a generator -/
theorem pickI : ∀ (ns : List Int) (r : Int), 0 ≤ r → r < ns.length → ∃ x ∈ ns, atI (ns.map V.int) r = some (.int x) := by
  intro ns r h0 h1
  refine ⟨ns[r.toNat]'(by omega), List.getElem_mem _, ?_⟩
  have z := atI_nat (xs := ns.map V.int) (j := r.toNat) (v := .int (ns[r.toNat]'(by omega))) (by rw [List.getElem?_map, List.getElem?_eq_getElem (by omega)]; rfl)
  rwa [Int.toNat_of_nonneg h0] at z
/-- all but p stays -/
def But (p : Addr) (H H' : Hp) : Prop := ∀ q o, q ≠ p → H q = some o → H' q = some o
/-- the generator went on, at most n draws -/
def Drew (p : Addr) (s t n : Int) (H H' : Hp) : Prop := ∃ a' t' : Int, H' p = some (gen a' s t') ∧ t ≤ t' ∧ t' ≤ t + n ∧ But p H H'
def sp_l_whole : Sp := fun vs H Q _ => ∃ (p : Addr) (a s t : Int), vs = [.ref p] ∧ H p = some (gen a s t) ∧ 0 ≤ t ∧ t < 2 ^ 61 ∧ ∀ (r : Int) (H' : Hp), r.natAbs < 2 ^ 100 → Drew p s t 16 H H' → Q (.int r) H'
theorem c_l_whole (T : TLaw K w mg) : Says P w K mg base 3 "_law_whole" ["_law_generator_here"] sp_l_whole := by
  refine says T.d_l_whole sc_l_whole (fun vs H Q E h => ?_) (fun f cdv A outer s H vs Q E hr h => ?_)
  · obtain ⟨_, _, _, _, rfl, _⟩ := h; rfl
  · refine ⟨_, (pss_cons (ps_set (i := 1) sc_l_whole.nd rfl (.inl rfl) (pe_ix ix_list (pe_lst (pa_cons pe_int (pa_cons pe_int (pa_cons (pe_un un_neg pe_int) (pa_cons pe_int (pa_cons (pe_op op_powA pe_int pe_int) pa_nil)))))) (pe_s (c_l_random T.tg) hr (pa_cons (pv 0) (pa_cons pe_int pa_nil))) (fun _ _ => rfl)))
      (pss_one (ps_ret (pe_op op_sub (pe_op op_add (pv 1) (pe_s (c_l_random T.tg) hr (pa_cons (pv 0) (pa_cons pe_int pa_nil)))) pe_int)))), ?_⟩
    obtain ⟨p, a, s, t, rfl, hp, t0, t1, q⟩ := h
    refine ⟨_, rfl, _, _, rfl, rfl, ⟨by decide, by decide +kernel⟩, (show 5 ≤ sizeLine by decide), fun l hl => ?_⟩
    refine ⟨_, rfl, p, a, s, t, 5, rfl, ?_, by decide, by decide, t0, by omega, fun r a' t' r0 r1 t2 t3 => ?_⟩
    · rw [upd_ne (ne_of_none hp hl)]
      exact hp
    obtain ⟨x, hx, e⟩ := pickI [0, 9223372036854775808, -9223372036854775808, 18446744073709551616, 10 ^ Int.toNat 25] r r0 r1
    have hb : x.natAbs < 2 ^ 99 := by
      rcases List.mem_cons.mp hx with rfl | hx
      · decide +kernel
      rcases List.mem_cons.mp hx with rfl | hx
      · decide +kernel
      rcases List.mem_cons.mp hx with rfl | hx
      · decide +kernel
      rcases List.mem_cons.mp hx with rfl | hx
      · decide +kernel
      rcases List.mem_cons.mp hx with rfl | hx
      · decide +kernel
      cases hx
    refine ⟨_, _, _, _, rfl, rfl, SqL.of ((upd_ne (ne_of_none hp hl).symm).trans upd_same), e, ?_⟩
    refine ⟨_, rfl, _, rfl, p, a', s, t', 19, rfl, upd_same, by decide, by decide, by omega, by omega, fun r2 a2 t4 r3 r4 t5 t6 => ?_⟩
    refine ⟨_, _, rfl, rfl, _, _, rfl, rfl, ?_⟩
    rw [upd_upd]
    refine q _ _ (by omega) ⟨a2, t4, upd_same, by omega, by omega, fun b o ne eb => ?_⟩
    rw [upd_ne ne, upd_ne (ne_of_none eb hl)]
    exact eb
def sp_l_number : Sp := fun vs H Q _ => ∃ (p : Addr) (a s t : Int), vs = [.ref p] ∧ H p = some (gen a s t) ∧ 0 ≤ t ∧ t < 2 ^ 61 ∧ ∀ (r : Int) (H' : Hp), InR r → Drew p s t 16 H H' → Q (.int r) H'
theorem c_l_number (T : TLaw K w mg) : Says P w K mg base 3 "_law_number" ["_law_generator_here"] sp_l_number := by
  refine says T.d_l_number sc_l_number (fun vs H Q E h => ?_) (fun f cdv A outer s H vs Q E hr h => ?_)
  · obtain ⟨_, _, _, _, rfl, _⟩ := h; rfl
  · refine ⟨_, (pss_cons (ps_set (i := 1) sc_l_number.nd rfl (.inl rfl) (pe_ix ix_list (pe_lst (pa_cons pe_int (pa_cons pe_int (pa_cons pe_int (pa_cons pe_int (pa_cons (pe_un un_neg pe_int) (pa_cons pe_int (pa_cons (pe_un un_neg pe_int) pa_nil)))))))) (pe_s (c_l_random T.tg) hr (pa_cons (pv 0) (pa_cons pe_int pa_nil))) (fun _ _ => rfl)))
      (pss_one (ps_ret (pe_op op_sub (pe_op op_add (pv 1) (pe_s (c_l_random T.tg) hr (pa_cons (pv 0) (pa_cons pe_int pa_nil)))) pe_int)))), ?_⟩
    obtain ⟨p, a, s, t, rfl, hp, t0, t1, q⟩ := h
    refine ⟨_, rfl, _, rfl, (show 7 ≤ sizeLine by decide), fun l hl => ?_⟩
    refine ⟨_, rfl, p, a, s, t, 7, rfl, ?_, by decide, by decide, t0, by omega, fun r a' t' r0 r1 t2 t3 => ?_⟩
    · rw [upd_ne (ne_of_none hp hl)]
      exact hp
    obtain ⟨x, hx, e⟩ := pickI [0, 0, 0, 9223372036854775798, -9223372036854775799, 4294967296, -3037000500] r r0 r1
    have hb : -9223372036854775799 ≤ x ∧ x ≤ 9223372036854775798 := by
      rcases List.mem_cons.mp hx with rfl | hx
      · decide
      rcases List.mem_cons.mp hx with rfl | hx
      · decide
      rcases List.mem_cons.mp hx with rfl | hx
      · decide
      rcases List.mem_cons.mp hx with rfl | hx
      · decide
      rcases List.mem_cons.mp hx with rfl | hx
      · decide
      rcases List.mem_cons.mp hx with rfl | hx
      · decide
      rcases List.mem_cons.mp hx with rfl | hx
      · decide
      cases hx
    refine ⟨_, _, _, _, rfl, rfl, SqL.of ((upd_ne (ne_of_none hp hl).symm).trans upd_same), e, ?_⟩
    refine ⟨_, rfl, _, rfl, p, a', s, t', 19, rfl, upd_same, by decide, by decide, by omega, by omega, fun r2 a2 t4 r3 r4 t5 t6 => ?_⟩
    refine ⟨_, _, rfl, rfl, _, _, rfl, rfl, ?_⟩
    rw [upd_upd]
    refine q _ _ ⟨by omega, by omega⟩ ⟨a2, t4, upd_same, by omega, by omega, fun b o ne eb => ?_⟩
    rw [upd_ne ne, upd_ne (ne_of_none eb hl)]
    exact eb
def sp_l_led : Sp := fun vs H Q _ => ∃ i : Int, vs = [.int i] ∧ Q (.int (led i)) H
theorem c_l_led (T : TLaw K w mg) : Says P w K mg base 1 "_law_led" ["_law_number_here"] sp_l_led := by
  refine says T.d_l_led sc_l_led (fun vs H Q E h => ?_) (fun f cdv A outer s H vs Q E hr h => ?_)
  · obtain ⟨_, rfl, _⟩ := h; rfl
  · refine ⟨_, (pss_one (ps_ret (pe_op op_sub (pe_op op_mod (pe_callTy call_int1 (by rfl) T.tg.b_int (by decide +kernel) (pa_cons (pe_op op_add (pv 0) pe_int) pa_nil)) pe_int) pe_int))), ?_⟩
    obtain ⟨i, rfl, q⟩ := h
    refine ⟨_, rfl, _, _, rfl, rfl, .inl ⟨_, rfl, ?_⟩⟩
    refine ⟨_, _, rfl, rfl, (show (0 : Int) < 18446744073709551616 by decide), _, _, rfl, rfl, ?_⟩
    show Q (.int ((i + 9223372036854775808) % 18446744073709551616 - 9223372036854775808)) H
    have e : (i + 9223372036854775808) % 18446744073709551616 - 9223372036854775808 = led i := by
      unfold led lo
      rw [Int.sub_neg]
      omega
    rw [e]
    exact q
/-- what is due of two numbers -/
inductive Due : Str → Int → Int → Int → Prop where
  | plus {a b : Int} : Due "plus" a b (led (a + b))
  | minus {a b : Int} : Due "minus" a b (led (a - b))
  | times {a b : Int} : Due "times" a b (led (a * b))
  | over {a b : Int} : Due "over" a b (if b = 0 then 0 else led (a.fdiv b))
  | rest {a b : Int} : Due "rest" a b (if b = 0 then a else a.fmod b)
theorem Due.deed {z : Str} {a b r : Int} (d : Due z a b r) (ha : InR a) (hb : InR b) : Deed z (.int a) (.int b) (.int r) := by
  cases d with
  | plus => exact .plus ha hb
  | minus => exact .minus ha hb
  | times => exact .times ha hb
  | over => exact .over ha hb
  | rest => exact .rest ha hb
theorem led_small (i : Int) : (led i).natAbs < 2 ^ 65 := by
  unfold led lo
  omega
theorem fmod_small {a b : Int} (h : ¬ b = 0) (hb : InR b) : (a.fmod b).natAbs < 2 ^ 65 := by
  have h1 := hb.1
  have h2 := hb.2
  rw [Int.fmod_eq_emod]
  have e0 := Int.emod_nonneg a h
  have e1 := Int.emod_lt a h
  split <;> omega
theorem Due.small {z : Str} {a b r : Int} (d : Due z a b r) (ha : InR a) (hb : InR b) : r.natAbs < 2 ^ 65 := by
  have h1 := ha.1
  have h2 := ha.2
  cases d with
  | plus => exact led_small _
  | minus => exact led_small _
  | times => exact led_small _
  | over =>
    split
    · decide
    · exact led_small _
  | rest =>
    split
    · omega
    · exact fmod_small (by assumption) hb
theorem log_small {r : Int} (h : r.natAbs < 2 ^ 100) : r.natAbs.log2 < 1920 := Nat.lt_of_lt_of_le (PySem.Flt.log2_lt_of (by decide) h) (by decide)
def sp_l_due : Sp := fun vs H Q _ => ∃ (z : Str) (a b r : Int), vs = [.str z, .int a, .int b] ∧ Due z a b r ∧ InR a ∧ InR b ∧ Q (.int r) H
theorem c_l_due (T : TLaw K w mg) : Says P w K mg base 2 "_law_due" ["_law_sign", "_law_one", "_law_other"] sp_l_due := by
  refine says T.d_l_due sc_l_due (fun vs H Q E h => ?_) (fun f cdv A outer s H vs Q E hr h => ?_)
  · obtain ⟨_, _, _, _, rfl, _⟩ := h; rfl
  · refine ⟨_, (pss_cons (ps_if (pt_cmpR op_eq (pv 0) pe_str (nomark _))
        (pss_one (ps_ret (pe_ifExp (pt_cmpR op_eq (pv 2) pe_int (nomark _)) pe_int (pe_s (c_l_led T) hr (pa_cons (pe_op op_fdivA (pe_callTy call_int1 (by rfl) T.tg.b_int (by decide +kernel) (pa_cons (pv 1) pa_nil)) (pv 2)) pa_nil)))))
        pss_nil)
      (pss_cons (ps_if (pt_cmpR op_eq (pv 0) pe_str (nomark _))
        (pss_one (ps_ret (pe_ifExp (pt_cmpR op_eq (pv 2) pe_int (nomark _)) (pv 1) (pe_op op_modN (pe_callTy call_int1 (by rfl) T.tg.b_int (by decide +kernel) (pa_cons (pv 1) pa_nil)) (pv 2)))))
        pss_nil)
      (pss_cons (ps_if (pt_cmpR op_eq (pv 0) pe_str (nomark _))
        (pss_one (ps_ret (pe_s (c_l_led T) hr (pa_cons (pe_op op_mul (pv 1) (pv 2)) pa_nil))))
        pss_nil)
      (pss_one (ps_ret (pe_ifExp (pt_cmpR op_eq (pv 0) pe_str (nomark _)) (pe_s (c_l_led T) hr (pa_cons (pe_op op_add (pv 1) (pv 2)) pa_nil)) (pe_s (c_l_led T) hr (pa_cons (pe_op op_sub (pv 1) (pv 2)) pa_nil)))))))), ?_⟩
    obtain ⟨z, a, b, r, rfl, d, ha, hb, q⟩ := h
    have h1 := ha.1
    have h2 := ha.2
    cases d with
    | over =>
      refine ⟨_, rfl, rfl, _, rfl, ifY rfl ?_⟩
      refine ⟨_, rfl, rfl, _, rfl, ifI (fun z => ?_) (fun z => ?_)⟩
      · rw [if_pos z] at q
        exact q
      · rw [if_neg z] at q
        exact ⟨_, rfl, .inl ⟨_, rfl, _, rfl, _, _, rfl, rfl, ⟨z, log_in hb⟩, _, rfl, q⟩⟩
    | rest =>
      refine ⟨_, rfl, rfl, _, rfl, ifN (by decide +kernel) ?_⟩
      refine ⟨_, rfl, rfl, _, rfl, ifY rfl ?_⟩
      refine ⟨_, rfl, rfl, _, rfl, ifI (fun z => ?_) (fun z => ?_)⟩
      · rw [if_pos z] at q
        exact ⟨_, rfl, q⟩
      · rw [if_neg z] at q
        exact ⟨_, rfl, .inl ⟨_, rfl, _, rfl, _, _, rfl, rfl, z, q⟩⟩
    | times =>
      refine ⟨_, rfl, rfl, _, rfl, ifN (by decide +kernel) ?_⟩
      refine ⟨_, rfl, rfl, _, rfl, ifN (by decide +kernel) ?_⟩
      refine ⟨_, rfl, rfl, _, rfl, ifY rfl ?_⟩
      exact ⟨_, rfl, _, rfl, _, _, rfl, rfl, .inl ⟨by omega, by omega⟩, _, rfl, q⟩
    | plus =>
      refine ⟨_, rfl, rfl, _, rfl, ifN (by decide +kernel) ?_⟩
      refine ⟨_, rfl, rfl, _, rfl, ifN (by decide +kernel) ?_⟩
      refine ⟨_, rfl, rfl, _, rfl, ifN (by decide +kernel) ?_⟩
      refine ⟨_, rfl, rfl, _, rfl, ifY rfl ?_⟩
      exact ⟨_, rfl, _, rfl, _, _, rfl, rfl, _, rfl, q⟩
    | minus =>
      refine ⟨_, rfl, rfl, _, rfl, ifN (by decide +kernel) ?_⟩
      refine ⟨_, rfl, rfl, _, rfl, ifN (by decide +kernel) ?_⟩
      refine ⟨_, rfl, rfl, _, rfl, ifN (by decide +kernel) ?_⟩
      refine ⟨_, rfl, rfl, _, rfl, ifN (by decide +kernel) ?_⟩
      exact ⟨_, rfl, _, rfl, _, _, rfl, rfl, _, rfl, q⟩
end
end Cb
set_option Elab.async false
set_option linter.all false
set_option maxRecDepth 100000
set_option maxHeartbeats 4000000
namespace Cb
open PySem PySem.Spec PyProof.Rows L2
abbrev s_l_pair_right : Stmt := topS 36
theorem sc_l_pair_right : FnScope ["_law_one", "_law_other", "_law_sign", "_law_given", "_law_told"] ["_law_one", "_law_other"] (defScope s_l_pair_right) := ⟨rfl, rfl, rfl, by decide +kernel, rfl, by decide +kernel, by decide +kernel⟩
section
variable {P : Program} {w : World} {K : PySem.W.Frag} {mg : Str → Option Value} {base : Heap}
theorem five (a b : Int) : ∀ (i : Nat) (x : V), ([.str "plus", .str "minus", .str "times", .str "over", .str "rest"] : List V)[i]? = some x → ∃ (z : Str) (r : Int), x = .str z ∧ Due z a b r
  | 0, _, h => ⟨_, _, (Option.some.inj h).symm, .plus⟩
  | 1, _, h => ⟨_, _, (Option.some.inj h).symm, .minus⟩
  | 2, _, h => ⟨_, _, (Option.some.inj h).symm, .times⟩
  | 3, _, h => ⟨_, _, (Option.some.inj h).symm, .over⟩
  | 4, _, h => ⟨_, _, (Option.some.inj h).symm, .rest⟩
  | _ + 5, _, h => nomatch h
/-- a text of data, asked by call_repr -/
theorem r_int {K : PySem.W.Frag} {u : Nat} {H : Hp} {Q : VK} {i : Int} (h : i.natAbs < 2 ^ 100) (hu : u + 200 < cLine) (q : Q (.str (PyData.shown (.int i))) H) : rRepr K u [.int i] H Q := by
  unfold rRepr
  exact ⟨_, .int i, rfl, .int i, by unfold PyData.showable; exact decide_eq_true (log_small h), rfl, by simp only [PyData.depth]; omega, .inl ⟨_, rfl⟩, q⟩
theorem len_bl (b : Bool) : (PyData.shown (.bool b)).length ≤ sizeLine := by cases b <;> decide +kernel
theorem r_bl {K : PySem.W.Frag} {u : Nat} {H : Hp} {Q : VK} {b : Bool} (hu : u + 200 < cLine) (q : Q (.str (PyData.shown (.bool b))) H) : rRepr K u [.bl b] H Q := by
  unfold rRepr
  exact ⟨_, .bool b, rfl, .bl b, rfl, rfl, by simp only [PyData.depth]; omega, .inr (len_bl b), q⟩
theorem r_bl2 {K : PySem.W.Frag} {u : Nat} {H : Hp} {Q : VK} {x y : Bool} {l : Addr} (hl : H l = some (.lst [.bl x, .bl y])) (hu : u + 200 < cLine) (q : Q (.str (PyData.shown (.list [.bool x, .bool y]))) H) : rRepr K u [.ref l] H Q := by
  unfold rRepr
  exact ⟨_, .list [.bool x, .bool y], rfl, .lst (SqL.of hl) (.cons (.bl _) (.cons (.bl _) .nil)), rfl, rfl, by simp only [PyData.depth, PyData.depthAll]; omega, .inr (by cases x <;> cases y <;> decide +kernel), q⟩
theorem r_bl3 {K : PySem.W.Frag} {u : Nat} {H : Hp} {Q : VK} {x y z : Bool} {l : Addr} (hl : H l = some (.lst [.bl x, .bl y, .bl z])) (hu : u + 200 < cLine) (q : Q (.str (PyData.shown (.list [.bool x, .bool y, .bool z]))) H) : rRepr K u [.ref l] H Q := by
  unfold rRepr
  exact ⟨_, .list [.bool x, .bool y, .bool z], rfl, .lst (SqL.of hl) (.cons (.bl _) (.cons (.bl _) (.cons (.bl _) .nil))), rfl, rfl, by simp only [PyData.depth, PyData.depthAll]; omega, .inr (by cases x <;> cases y <;> cases z <;> decide +kernel), q⟩
theorem eqv2 (a b : Int) : PyData.eqv (.list [.int a, .int b]) (.list [.int a, .int b]) = true := by
  simp [PyData.eqv, PyData.eqvAll]
def sp_l_pair_right : Sp := fun vs H Q _ => ∃ a b : Int, vs = [.int a, .int b] ∧ InR a ∧ InR b ∧ ∀ H', Same H H' → Q (.bl true) H'
theorem c_l_pair_right (T : TLaw K w mg) (dp : Has K mg "_law_pair_right" s_l_pair_right ["_law_one", "_law_other"]) : SaysG P w K mg base 6 "_law_pair_right" ["_law_one", "_law_other"] sp_l_pair_right := by
  refine saysG dp sc_l_pair_right (fun vs H Q E h => ?_) (fun f cdv A outer s H vs Q E ga hr h => ?_)
  · obtain ⟨_, _, rfl, _⟩ := h; rfl
  · refine ⟨_, (pss_cons (ps_for PassesOwn.never rfl (pi_list (pe_lst (pa_cons pe_str (pa_cons pe_str (pa_cons pe_str (pa_cons pe_str (pa_cons pe_str pa_nil))))))) (pg_name (i := 2) sc_l_pair_right.nd rfl (.inl rfl))
        (pss_cons (ps_set (i := 3) sc_l_pair_right.nd rfl (.inl rfl) (pe_lst (pa_cons (pv 0) (pa_cons (pv 1) pa_nil))))
        (pss_cons (ps_set (i := 4) sc_l_pair_right.nd rfl (.inl rfl) (pe_s (c_done T.tn) hr (pa_cons (pv 2) (pa_cons (pv 3) pa_nil))))
        (pss_one (ps_if (PW.pt (pw_or (pt_cmpR op_ne (pe_callB (call_repr ga) (by rfl) T.b_repr (by decide +kernel) (pa_cons (pv 4) pa_nil)) (pe_callB (call_repr ga) (by rfl) T.b_repr (by decide +kernel) (pa_cons (pe_s (c_l_due T) hr (pa_cons (pv 2) (pa_cons (pv 0) (pa_cons (pv 1) pa_nil)))) pa_nil)) (nomark _)) (pw_or (pt_cmpR op_ne (pe_k0 (k_done T.tn) hr (pk_cons (pv 3) (pk_cons (pv 2) pk_nil))) (pv 4) (nomark _)) (pw_or1 (pt_cmpR (op_neD hr.units) (pv 3) (pe_lst (pa_cons (pv 0) (pa_cons (pv 1) pa_nil))) (nomark _))))))
            (pss_one (ps_ret pe_bl))
            pss_nil)))))
      (pss_one (ps_ret (pe_cmpR op_eq (pe_callB (call_repr ga) (by rfl) T.b_repr (by decide +kernel) (pa_cons (pe_lst (pa_cons (pe_s (c_done T.tn) hr (pa_cons pe_str (pa_cons (pe_lst (pa_cons (pv 0) (pa_cons (pv 1) pa_nil))) pa_nil))) (pa_cons (pe_s (c_done T.tn) hr (pa_cons pe_str (pa_cons (pe_lst (pa_cons (pv 0) (pa_cons (pv 1) pa_nil))) pa_nil))) (pa_cons (pe_s (c_done T.tn) hr (pa_cons pe_str (pa_cons (pe_lst (pa_cons (pv 0) (pa_cons (pv 0) pa_nil))) pa_nil))) pa_nil)))) pa_nil)) (pe_callB (call_repr ga) (by rfl) T.b_repr (by decide +kernel) (pa_cons (pe_lst (pa_cons (pe_cmpR op_lt (pv 0) (pv 1) (nomark _)) (pa_cons (pe_cmpR op_eq (pv 0) (pv 1) (nomark _)) (pa_cons pe_bl pa_nil)))) pa_nil)) (nomark _))))), ?_⟩
    obtain ⟨a, b, rfl, ha, hb, q⟩ := h
    have hu := hr.un
    have hu' : (A.deeper (envOfC "_law_pair_right" (defScope s_l_pair_right) s.heap.objs.size f cdv)).units + 200 < cLine := by omega
    refine ⟨(show 5 ≤ sizeLine by decide), fun l hl => ⟨_, rfl, ⟨_, SqL.of upd_same⟩, for_list (xs := [.str "plus", .str "minus", .str "times", .str "over", .str "rest"])
      (fun i σ H' => (∃ x y z : Option V, σ = [some (.int a), some (.int b), x, y, z]) ∧ Same (upd H l (.lst [.str "plus", .str "minus", .str "times", .str "over", .str "rest"])) H')
      ⟨⟨none, none, none, rfl⟩, Same.refl _⟩ (fun i σ H' _ h => SqL.of (h.2 _ _ upd_same)) ?_ ?_⟩⟩
    · rintro i x σ H' hx ⟨⟨x1, y1, z1, rfl⟩, s1⟩
      obtain ⟨z, r, rfl, du⟩ := five a b i x hx
      have small := du.small ha hb
      refine ⟨_, rfl, _, rfl, (show 2 ≤ sizeLine by decide), fun g hg => ?_⟩
      refine ⟨_, rfl, _, rfl, z, g, rfl, .inr ⟨.int a, .int b, .int r, upd_same, du.deed ha hb, fun H2 s2 => ?_⟩⟩
      refine ⟨_, rfl, r_int (by omega) hu' ?_⟩
      refine ⟨_, rfl, _, rfl, _, rfl, z, a, b, r, rfl, du, ha, hb, r_int (by omega) hu' ?_⟩
      refine ⟨rfl, _, rfl, neN ?_⟩
      refine ⟨_, rfl, _, rfl, z, g, rfl, .inr ⟨.int a, .int b, .int r, s2 _ _ upd_same, du.deed ha hb, fun H3 s3 => ?_⟩⟩
      refine ⟨_, rfl, rfl, _, rfl, neN ?_⟩
      refine ⟨_, rfl, _, rfl, _, rfl, (show 2 ≤ sizeLine by decide), fun g2 hg2 => ?_⟩
      have e3 := s3 _ _ (s2 _ _ (upd_same (H := H') (a := g) (o := .lst [.int a, .int b])))
      refine ⟨.list [.int a, .int b], .list [.int a, .int b], .lst (SqL.of (by rw [upd_ne (ne_of_none e3 hg2)]; exact e3)) (.cons (.int a) (.cons (.int b) .nil)), .lst (SqL.of upd_same) (.cons (.int a) (.cons (.int b) .nil)), rfl, rfl, _, rfl, ?_⟩
      rw [eqv2]
      refine iteF ?_
      exact ⟨⟨_, _, _, rfl⟩, ((((s1.trans (same_new hg)).trans s2).trans s3).trans (same_new hg2))⟩
    · rintro σ H' ⟨⟨x1, y1, z1, rfl⟩, s1⟩
      refine ⟨_, rfl, _, rfl, (show 2 ≤ sizeLine by decide), fun g1 h1 => ?_⟩
      refine ⟨"less", g1, rfl, .inr ⟨.int a, .int b, _, upd_same, .less ha hb, fun H1 s2 => ?_⟩⟩
      refine ⟨_, rfl, _, rfl, (show 2 ≤ sizeLine by decide), fun g2 h2 => ?_⟩
      refine ⟨"same", g2, rfl, .inr ⟨.int a, .int b, _, upd_same, .same ha hb, fun H2 s3 => ?_⟩⟩
      refine ⟨_, rfl, _, rfl, (show 2 ≤ sizeLine by decide), fun g3 h3 => ?_⟩
      refine ⟨"same", g3, rfl, .inr ⟨.int a, .int a, _, upd_same, .same ha ha, fun H3 s4 => ?_⟩⟩
      refine ⟨(show 3 ≤ sizeLine by decide), fun l1 hl1 => r_bl3 upd_same hu' ?_⟩
      refine ⟨_, rfl, _, rfl, _, _, rfl, rfl, _, rfl, _, rfl, rfl, (show 3 ≤ sizeLine by decide), fun l2 hl2 => r_bl3 upd_same hu' ?_⟩
      refine ⟨rfl, ?_⟩
      have key : decide (V.str (PyData.shown (.list [.bool (decide (a < b)), .bool (decide (V.int a = V.int b)), .bool (decide (V.int a = V.int a))])) = V.str (PyData.shown (.list [.bool (decide (a < b)), .bool (decide (V.int a = V.int b)), .bool true]))) = true := by
        rw [show decide (V.int a = V.int a) = true from decide_eq_true rfl]
        exact decide_eq_true rfl
      rw [key]
      exact q _ (((((((((same_new hl).trans s1).trans (same_new h1)).trans s2).trans (same_new h2)).trans s3).trans (same_new h3)).trans s4).trans ((same_new hl1).trans (same_new hl2)))
end
end Cb
set_option Elab.async false
set_option linter.all false
set_option maxRecDepth 100000
set_option maxHeartbeats 4000000
namespace Cb
open PySem PySem.Spec PyProof.Rows L2
abbrev s_law : Stmt := topS 37
theorem sc_law : FnScope ["_law_script", "_law_index", "_law_generator_here", "_law_turn", "_law_number_here", "_law_due_here", "_law_one", "_law_other", "_law_signs", "_law_value"] ["_law_script"] (defScope s_law) := ⟨rfl, rfl, rfl, by decide +kernel, rfl, by decide +kernel, by decide +kernel⟩
section
variable {P : Program} {w : World} {K : PySem.W.Frag} {mg : Str → Option Value} {base : Heap}
theorem in_chain {r : Int} {σ : L2.St} {Q : VK} {H : Hp} (q : Q (.bl (inR r)) H) : if decide (lo ≤ r) = true then tC (.int hi) σ H (fun y H2 => rI0 (fun i j => .bl (decide (i ≤ j))) (.int r) y H2 Q) else Q (.bl false) H := by
  unfold inR at q
  by_cases h : lo ≤ r
  · rw [decide_eq_true h] at q ⊢
    exact iteT ⟨_, _, rfl, rfl, q⟩
  · rw [decide_eq_false h] at q ⊢
    exact iteF q
theorem But.same {p : Addr} {H0 H1 H2 : Hp} (b : But p H1 H2) (n : H0 p = none) (s : Same H0 H1) : Same H0 H2 := fun q o e => b q o (ne_of_none e n) (s q o e)
def sp_law (K : PySem.W.Frag) : Sp := fun vs H Q _ => ∃ (p : Addr) (ns : List Int), vs = [.ref p] ∧ SqL K H p (ns.map V.int) ∧ ∀ H', Q (.bl true) H'
theorem dp_rep {K : PySem.W.Frag} {H : Hp} (b : Bool) : ∀ n : Nat, DpAll K H (List.replicate n (V.bl b)) (List.replicate n (.bool b))
  | 0 => .nil
  | n + 1 => .cons (.bl b) (dp_rep b n)
/-- the six, the ten, the other six -/
def b6 : List PyData := [.bool false, .bool false, .bool false, .bool false, .bool false, .bool true]
def v6 : List V := [.bl false, .bl false, .bl false, .bl false, .bl false, .bl true]
theorem dp6 {K : PySem.W.Frag} {H : Hp} : DpAll K H v6 b6 := .cons (.bl _) (.cons (.bl _) (.cons (.bl _) (.cons (.bl _) (.cons (.bl _) (.cons (.bl _) .nil)))))
theorem eq6 : PyData.eqv (.list b6) (.list b6) = true := by decide +kernel
theorem eq10 : PyData.eqv (.list (List.replicate 10 (.bool true))) (.list (List.replicate 10 (.bool true))) = true := by decide +kernel
theorem eqn6 : PyData.eqv (.list (List.replicate 6 (.bool false))) (.list (List.replicate 6 (.bool false))) = true := by decide +kernel
theorem sh6 : SeqAt.shaped (.list b6) = true := by decide +kernel
theorem sh10 : SeqAt.shaped (.list (List.replicate 10 (.bool true))) = true := by decide +kernel
theorem shn6 : SeqAt.shaped (.list (List.replicate 6 (.bool false))) = true := by decide +kernel
/-- is_number of values of all sorts -/
theorem six {K : PySem.W.Frag} {H1 : Hp} {l1 : Addr} {r1 : List V} (e1 : H1 l1 = some (.lst r1)) : ∀ (j : Nat) (x y : V), ([.bl true, .non, .str "1", .bl false, .ref l1, .int 0] : List V)[j]? = some x → ([.bl false, .bl false, .bl false, .bl false, .bl false, .bl true] : List V)[j]? = some y →
    ∀ (H' : Hp) (Q : VK) (E : XK), Same H1 H' → Q y H' → sp_is_number K [x] H' Q E
  | 0, _, _, hx, hy, H', Q, E, s, q => by
    obtain rfl := Option.some.inj hx
    obtain rfl := Option.some.inj hy
    exact .inr ⟨_, "bool", true, true, rfl, .base (.bl _), by decide +kernel, by decide +kernel, rfl, q⟩
  | 1, _, _, hx, hy, H', Q, E, s, q => by
    obtain rfl := Option.some.inj hx
    obtain rfl := Option.some.inj hy
    exact .inr ⟨_, "NoneType", false, false, rfl, .base .non, by decide +kernel, by decide +kernel, rfl, q⟩
  | 2, _, _, hx, hy, H', Q, E, s, q => by
    obtain rfl := Option.some.inj hx
    obtain rfl := Option.some.inj hy
    exact .inr ⟨_, "str", false, false, rfl, .base (.str _), by decide +kernel, by decide +kernel, rfl, q⟩
  | 3, _, _, hx, hy, H', Q, E, s, q => by
    obtain rfl := Option.some.inj hx
    obtain rfl := Option.some.inj hy
    exact .inr ⟨_, "bool", true, true, rfl, .base (.bl _), by decide +kernel, by decide +kernel, rfl, q⟩
  | 4, _, _, hx, hy, H', Q, E, s, q => by
    obtain rfl := Option.some.inj hx
    obtain rfl := Option.some.inj hy
    exact .inr ⟨_, "list", false, false, rfl, .base (.lst (s _ _ e1)), by decide +kernel, by decide +kernel, rfl, q⟩
  | 5, _, _, hx, hy, H', Q, E, s, q => by
    obtain rfl := Option.some.inj hx
    obtain rfl := Option.some.inj hy
    exact .inl ⟨0, rfl, q⟩
  | _ + 6, _, _, hx, _, _, _, _, _, _ => nomatch hx
theorem shape_mk {K : PySem.W.Frag} {d a : Addr} {z kind gives : Str} {many : Int} {od : Option Addr} {its : Array Value} {n : Nat} {sl : Array (Option Value)} (e : PySem.W.nsIn K d z = some (some (.ref a)))
    (l : K.lookup a = some ⟨.type "tuple", od, .seq its n, sl⟩) (sz : its.size ≤ sizeLine) (v : Vals [.str kind, .int many, .str gives] its.toList) : Shape K d z kind many gives := ⟨a, e, ⟨_, its, n, l, rfl, rfl, sz, v⟩⟩
theorem work_mk {K : PySem.W.Frag} {mg : Str → Option Value} {h : Heap} {d f : Addr} {z x : Str} (X : K.In h) (G : h.Ns mainGlobals mg) (a : PySem.W.nsIn K mainGlobals x = some (some (.ref f))) (e : PySem.W.nsIn K d z = some (some (.ref f))) :
    ∃ f : Addr, mg x = some (.ref f) ∧ PySem.W.nsIn K d z = some (some (.ref f)) := ⟨f, PySem.W.mg_of X G a, e⟩
theorem num_mk {K : PySem.W.Frag} {mg : Str → Option Value} {h : Heap} {x : Str} {i : Int} {t : Tok} (X : K.In h) (G : h.Ns mainGlobals mg) (e : PySem.W.nsIn K mainGlobals x = some (some (.int i t))) : ∃ t : Tok, mg x = some (.int i t) := ⟨t, PySem.W.mg_of X G e⟩
theorem shape_in {K : PySem.W.Frag} {d : Addr} {z kind gives : Str} {many : Int} (h : Shape K d z kind many gives) : ∃ r : Value, PySem.W.nsIn K d z = some (some r) := by
  obtain ⟨a, e, _⟩ := h
  exact ⟨_, e⟩
/-- all ten are signs -/
theorem ten (T : TNum K w mg) {d : Addr} (h : ∀ z ∈ (["plus", "minus", "times", "over", "rest", "less", "same", "both", "any", "not"] : List Str), ∃ r : Value, PySem.W.nsIn K d z = some (some r)) :
    ∀ (j : Nat) (x y : V), ((["plus", "minus", "times", "over", "rest", "less", "same", "both", "any", "not"] : List Str).map V.str)[j]? = some x → (List.replicate 10 (V.bl true))[j]? = some y → ∀ (H' : Hp) (Q : VK) (E : XK), Q y H' → sp_is_sign K d [x] H' Q E := by
  intro j x y hx hy H' Q E q
  rw [List.getElem?_map] at hx
  cases hz : (["plus", "minus", "times", "over", "rest", "less", "same", "both", "any", "not"] : List Str)[j]? with
  | none =>
    rw [hz] at hx
    cases hx
  | some z =>
    rw [hz] at hx
    obtain rfl : V.str z = x := Option.some.inj hx
    rw [List.getElem?_replicate] at hy
    obtain ⟨r, e⟩ := h z (List.mem_of_getElem? hz)
    split at hy
    · obtain rfl := Option.some.inj hy
      exact .inl ⟨z, _, rfl, e, q⟩
    · cases hy
/-- none of these is a sign -/
theorem nosix {K : PySem.W.Frag} {d : Addr} {H1 : Hp} {l1 : Addr} {r1 : List V} (e1 : H1 l1 = some (.lst r1)) (h : ∀ z ∈ (["", "Plus", "and"] : List Str), PySem.W.nsIn K d z = some none) :
    ∀ (j : Nat) (x y : V), ([.str "", .str "Plus", .non, .int 1, .ref l1, .str "and"] : List V)[j]? = some x → ([.bl false, .bl false, .bl false, .bl false, .bl false, .bl false] : List V)[j]? = some y →
    ∀ (H' : Hp) (Q : VK) (E : XK), Same H1 H' → Q y H' → sp_is_sign K d [x] H' Q E
  | 0, _, _, hx, hy, H', Q, E, s, q => by
    obtain rfl := Option.some.inj hx
    obtain rfl := Option.some.inj hy
    exact .inl ⟨_, none, rfl, h _ (by decide), q⟩
  | 1, _, _, hx, hy, H', Q, E, s, q => by
    obtain rfl := Option.some.inj hx
    obtain rfl := Option.some.inj hy
    exact .inl ⟨_, none, rfl, h _ (by decide), q⟩
  | 2, _, _, hx, hy, H', Q, E, s, q => by
    obtain rfl := Option.some.inj hx
    obtain rfl := Option.some.inj hy
    exact .inr ⟨_, "NoneType", rfl, .base .non, by decide +kernel, q⟩
  | 3, _, _, hx, hy, H', Q, E, s, q => by
    obtain rfl := Option.some.inj hx
    obtain rfl := Option.some.inj hy
    exact .inr ⟨_, "int", rfl, .base (.int _), by decide +kernel, q⟩
  | 4, _, _, hx, hy, H', Q, E, s, q => by
    obtain rfl := Option.some.inj hx
    obtain rfl := Option.some.inj hy
    exact .inr ⟨_, "list", rfl, .base (.lst (s _ _ e1)), by decide +kernel, q⟩
  | 5, _, _, hx, hy, H', Q, E, s, q => by
    obtain rfl := Option.some.inj hx
    obtain rfl := Option.some.inj hy
    exact .inl ⟨_, none, rfl, h _ (by decide), q⟩
  | _ + 6, _, _, hx, _, _, _, _, _, _ => nomatch hx
theorem c_law (T : TLaw K w mg) (dp : Has K mg "_law_pair_right" s_l_pair_right ["_law_one", "_law_other"]) {fl : Addr} {fdl : FuncData} (F : Fun K "law" "law" s_law fl fdl) : FnG P w K mg base CX0 7 fl fdl ["_law_script"] (sp_law K) := by
  obtain ⟨dS, es, nS, gS, DS, sh1, sh2, sh3, sh4, sh5⟩ := T.tn.g_SHAPES
  refine fnG F sc_law (fun vs H Q E h => ?_) (fun f cdv A outer s H vs Q E ga hr h => ?_)
  · obtain ⟨_, _, rfl, _⟩ := h; rfl
  · refine ⟨_, (pss_cons (ps_for PassesOwn.never rfl (pi_range1 (by rfl) T.tg.b_range (pa_cons pe_int pa_nil)) (pg_name (i := 1) sc_law.nd rfl (.inl rfl))
        (pss_cons (ps_set (i := 2) sc_law.nd rfl (.inl rfl) (pe_s (c_l_generator T.tg) hr (pa_cons (pv 0) (pa_cons (pv 1) pa_nil))))
        (pss_cons (ps_for PassesOwn.never rfl (pi_range1 (by rfl) T.tg.b_range (pa_cons pe_int pa_nil)) (pg_name (i := 3) sc_law.nd rfl (.inl rfl))
            (pss_cons (ps_set (i := 4) sc_law.nd rfl (.inl rfl) (pe_s (c_l_whole T) hr (pa_cons (pv 2) pa_nil)))
            (pss_cons (ps_set (i := 5) sc_law.nd rfl (.inl rfl) (pe_chain op_le op_le (pe_un un_neg pe_int) (pv 4) pe_int))
            (pss_cons (ps_if (PW.pt (pw_or (pt_cmpR op_ne (pe_callB (call_repr ga) (by rfl) T.b_repr (by decide +kernel) (pa_cons (pe_s (c_is_number T.tn) hr (pa_cons (pv 4) pa_nil)) pa_nil)) (pe_callB (call_repr ga) (by rfl) T.b_repr (by decide +kernel) (pa_cons (pv 5) pa_nil)) (nomark _)) (pw_or (pt_cmpR op_ne (pe_callB (call_repr ga) (by rfl) T.b_repr (by decide +kernel) (pa_cons (pe_s (c_led_in T.tn) hr (pa_cons (pv 4) pa_nil)) pa_nil)) (pe_callB (call_repr ga) (by rfl) T.b_repr (by decide +kernel) (pa_cons (pe_s (c_l_led T) hr (pa_cons (pv 4) pa_nil)) pa_nil)) (nomark _)) (pw_or1 (pt_cmpR op_ne (pe_k0 (k_led_in T.tn) hr (pk_cons (pv 4) pk_nil)) (pe_s (c_l_led T) hr (pa_cons (pv 4) pa_nil)) (nomark _))))))
                (pss_one (ps_ret pe_bl))
                pss_nil)
            (pss_one (ps_if (pt_not (pt_val (pe_g (c_l_pair_right T dp) ga hr (pa_cons (pe_s (c_l_number T) hr (pa_cons (pv 2) pa_nil)) (pa_cons (pe_s (c_l_number T) hr (pa_cons (pv 2) pa_nil)) pa_nil)))))
                (pss_one (ps_ret pe_bl))
                pss_nil))))))
        (pss_cons (ps_set (i := 4) sc_law.nd rfl (.inl rfl) (pe_s (c_l_number T) hr (pa_cons (pv 2) pa_nil)))
        (pss_one (ps_if (PW.pt (pw_or (pt_not (pt_val (pe_g (c_l_pair_right T dp) ga hr (pa_cons (pv 4) (pa_cons pe_int pa_nil))))) (pw_or (pt_not (pt_val (pe_g (c_l_pair_right T dp) ga hr (pa_cons (pv 4) (pa_cons (pe_un un_neg pe_int) pa_nil))))) (pw_or1 (pt_not (pt_val (pe_g (c_l_pair_right T dp) ga hr (pa_cons (pe_un un_neg pe_int) (pa_cons (pe_un un_neg pe_int) pa_nil)))))))))
            (pss_one (ps_ret pe_bl))
            pss_nil))))))
    (pss_cons (ps_for PassesOwn.never rfl (pi_list (pe_lst (pa_cons pe_bl (pa_cons pe_bl pa_nil)))) (pg_name (i := 6) sc_law.nd rfl (.inl rfl))
        (pss_cons (ps_if (pt_cmpR op_ne (pe_callB (call_repr ga) (by rfl) T.b_repr (by decide +kernel) (pa_cons (pe_s (c_done T.tn) hr (pa_cons pe_str (pa_cons (pe_lst (pa_cons (pv 6) pa_nil)) pa_nil))) pa_nil)) (pe_callB (call_repr ga) (by rfl) T.b_repr (by decide +kernel) (pa_cons (pe_not (pv 6)) pa_nil)) (nomark _))
            (pss_one (ps_ret pe_bl))
            pss_nil)
        (pss_one (ps_for PassesOwn.never rfl (pi_list (pe_lst (pa_cons pe_bl (pa_cons pe_bl pa_nil)))) (pg_name (i := 7) sc_law.nd rfl (.inl rfl))
            (pss_one (ps_if (pt_cmpR op_ne (pe_callB (call_repr ga) (by rfl) T.b_repr (by decide +kernel) (pa_cons (pe_lst (pa_cons (pe_s (c_done T.tn) hr (pa_cons pe_str (pa_cons (pe_lst (pa_cons (pv 6) (pa_cons (pv 7) pa_nil))) pa_nil))) (pa_cons (pe_s (c_done T.tn) hr (pa_cons pe_str (pa_cons (pe_lst (pa_cons (pv 6) (pa_cons (pv 7) pa_nil))) pa_nil))) pa_nil))) pa_nil)) (pe_callB (call_repr ga) (by rfl) T.b_repr (by decide +kernel) (pa_cons (pe_lst (pa_cons (pe_and (pv 6) (pe_one (pv 7))) (pa_cons (pe_or (pv 6) (pe_one (pv 7))) pa_nil))) pa_nil)) (nomark _))
                (pss_one (ps_ret pe_bl))
                pss_nil))))))
    (pss_cons (ps_if (pt_cmpR (op_neD hr.units) (pe_lc (own := [("_law_value", 9)]) (g := gName 9) (tt := tYes) rfl sc_law.nd (pi_list (pe_lst (pa_cons pe_bl (pa_cons pe_non (pa_cons pe_str (pa_cons pe_bl (pa_cons (pe_lst (pa_cons pe_int pa_nil)) (pa_cons pe_int pa_nil)))))))) (blkOk_by (N := ["_law_script", "_law_index", "_law_generator_here", "_law_turn", "_law_number_here", "_law_due_here", "_law_one", "_law_other", "_law_signs", "_law_value"]) (sc := defScope s_law) (own := [("_law_value", 9)]) (by decide +kernel)) (fun _ _ _ _ _ => pg_name (i := 9) sc_law.nd rfl (Or.inl rfl)) (fun _ _ _ _ _ => pts_nil) (fun _ _ _ _ _ => (pe_s (c_is_number T.tn) hr (pa_cons (pv 9) pa_nil)))) (pe_op op_cat (pe_op op_rep (pe_lst (pa_cons pe_bl pa_nil)) pe_int) (pe_lst (pa_cons pe_bl pa_nil))) (nomark _))
        (pss_one (ps_ret pe_bl))
        pss_nil)
    (pss_cons (ps_set (i := 8) sc_law.nd rfl (.inl rfl) (pe_lst (pa_cons pe_str (pa_cons pe_str (pa_cons pe_str (pa_cons pe_str (pa_cons pe_str (pa_cons pe_str (pa_cons pe_str (pa_cons pe_str (pa_cons pe_str (pa_cons pe_str pa_nil))))))))))))
    (pss_one (ps_ret (pe_and (pe_cmpR (op_eqD hr.units) (pe_lc (own := [("_law_value", 9)]) (g := gName 9) (tt := tYes) rfl sc_law.nd (pi_list (pv 8)) (blkOk_by (N := ["_law_script", "_law_index", "_law_generator_here", "_law_turn", "_law_number_here", "_law_due_here", "_law_one", "_law_other", "_law_signs", "_law_value"]) (sc := defScope s_law) (own := [("_law_value", 9)]) (by decide +kernel)) (fun _ _ _ _ _ => pg_name (i := 9) sc_law.nd rfl (Or.inl rfl)) (fun _ _ _ _ _ => pts_nil) (fun _ _ _ _ _ => (pe_s (c_is_sign T.tn gS DS) hr (pa_cons (pv 9) pa_nil)))) (pe_op op_rep (pe_lst (pa_cons pe_bl pa_nil)) pe_int) (nomark _)) (pe_one (pe_cmpR (op_eqD hr.units) (pe_lc (own := [("_law_value", 9)]) (g := gName 9) (tt := tYes) rfl sc_law.nd (pi_list (pe_lst (pa_cons pe_str (pa_cons pe_str (pa_cons pe_non (pa_cons pe_int (pa_cons (pe_lst (pa_cons pe_str pa_nil)) (pa_cons pe_str pa_nil)))))))) (blkOk_by (N := ["_law_script", "_law_index", "_law_generator_here", "_law_turn", "_law_number_here", "_law_due_here", "_law_one", "_law_other", "_law_signs", "_law_value"]) (sc := defScope s_law) (own := [("_law_value", 9)]) (by decide +kernel)) (fun _ _ _ _ _ => pg_name (i := 9) sc_law.nd rfl (Or.inl rfl)) (fun _ _ _ _ _ => pts_nil) (fun _ _ _ _ _ => (pe_s (c_is_sign T.tn gS DS) hr (pa_cons (pv 9) pa_nil)))) (pe_op op_rep (pe_lst (pa_cons pe_bl pa_nil)) pe_int) (nomark _)))))))))), ?_⟩
    obtain ⟨p, ns, rfl, hS, q⟩ := h
    have hu := hr.un
    have hu' : (A.deeper (envOfC "law" (defScope s_law) s.heap.objs.size f cdv)).units + 200 < cLine := by omega
    refine ⟨3, rfl, by decide, by decide, for_range (n := 3) (fun i σ H' => (∃ x1 x2 x3 x4 x5 : Option V, σ = [some (.ref p), x1, x2, x3, x4, x5, none, none, none, none]) ∧ Same H H') ⟨⟨none, none, none, none, none, rfl⟩, Same.refl _⟩ ?_ ?_⟩
    · rintro i σ H' hi ⟨⟨x1, x2, x3, x4, x5, rfl⟩, s1⟩
      refine ⟨_, rfl, _, rfl, p, ns, _, rfl, s1.seq hS, by omega, by omega, fun g a s0 H1 hg s2 hp1 => ?_⟩
      refine ⟨4, rfl, by decide, by decide, for_range (n := 4) (fun j σ H2 => (∃ x3 x4 x5 : Option V, σ = [some (.ref p), some (.int (0 + i)), some (.ref g), x3, x4, x5, none, none, none, none]) ∧ (∃ a' t' : Int, H2 g = some (gen a' s0 t') ∧ 0 ≤ t' ∧ t' ≤ 3000 + 100 * j) ∧ Same H' H2) ⟨⟨_, _, _, rfl⟩, ⟨_, _, hp1, by omega, by omega⟩, s2⟩ ?_ ?_⟩
      · rintro j σ H2 hj ⟨⟨x3, x4, x5, rfl⟩, ⟨a2, t2, hp2, l1, l2⟩, s3⟩
        refine ⟨_, rfl, g, a2, s0, t2, rfl, hp2, l1, by omega, ?_⟩
        rintro r H3 rb ⟨a3, t3, hp3, l3, l4, but3⟩
        have s4 := but3.same hg s3
        refine ⟨_, rfl, _, rfl, _, _, rfl, rfl, _, rfl, ?_⟩
        refine in_chain ?_
        refine ⟨_, rfl, .inl ⟨r, rfl, r_bl hu' ?_⟩⟩
        refine ⟨_, rfl, r_bl hu' ?_⟩
        refine ⟨rfl, _, rfl, neN ?_⟩
        refine ⟨_, rfl, _, rfl, r_int (Nat.lt_trans (led_small r) (by decide)) hu' ?_⟩
        refine ⟨_, rfl, _, rfl, r_int (Nat.lt_trans (led_small r) (by decide)) hu' ?_⟩
        refine ⟨rfl, _, rfl, neN ?_⟩
        refine ⟨_, rfl, _, rfl, ?_⟩
        refine ⟨_, rfl, _, rfl, rfl, _, rfl, neN ?_⟩
        refine ⟨_, rfl, g, a3, s0, t3, rfl, hp3, by omega, by omega, ?_⟩
        rintro r1 H4 b1 ⟨a4, t4, hp4, l5, l6, but4⟩
        have s5 := but4.same hg s4
        refine ⟨_, rfl, g, a4, s0, t4, rfl, hp4, by omega, by omega, ?_⟩
        rintro r2 H5 b2 ⟨a5, t5, hp5, l7, l8, but5⟩
        have s6 := but5.same hg s5
        refine ⟨_, _, rfl, b1, b2, fun H6 s7 => ⟨_, rfl, iteF ?_⟩⟩
        exact ⟨⟨_, _, _, rfl⟩, ⟨a5, t5, s7 _ _ hp5, by omega, by omega⟩, s6.trans s7⟩
      · rintro σ H2 ⟨⟨x3, x4, x5, rfl⟩, ⟨a2, t2, hp2, l1, l2⟩, s3⟩
        refine ⟨_, rfl, g, a2, s0, t2, rfl, hp2, l1, by omega, ?_⟩
        rintro r H3 rb ⟨a3, t3, hp3, l3, l4, but3⟩
        have s4 := but3.same hg s3
        refine ⟨_, rfl, _, _, rfl, rb, ⟨by decide, by decide⟩, fun H4 s5 => ⟨_, rfl, iteF ?_⟩⟩
        refine ⟨_, rfl, _, rfl, _, _, rfl, rb, ⟨by decide, by decide⟩, fun H5 s6 => ⟨_, rfl, iteF ?_⟩⟩
        refine ⟨_, rfl, _, rfl, _, _, rfl, ⟨by decide, by decide⟩, ⟨by decide, by decide⟩, fun H6 s7 => ⟨_, rfl, iteF ?_⟩⟩
        exact ⟨⟨_, _, _, _, _, rfl⟩, s1.trans (((s4.trans s5).trans s6).trans s7)⟩
    · rintro σ H0 ⟨⟨x1, x2, x3, x4, x5, rfl⟩, s1⟩
      refine ⟨(show 2 ≤ sizeLine by decide), fun l hl => ⟨_, rfl, ⟨_, SqL.of upd_same⟩, for_list (xs := [.bl true, .bl false])
        (fun i σ H' => (∃ x6 x7 : Option V, σ = [some (.ref p), x1, x2, x3, x4, x5, x6, x7, none, none]) ∧ Same (upd H0 l (.lst [.bl true, .bl false])) H')
        ⟨⟨none, none, rfl⟩, Same.refl _⟩ (fun i σ H' _ h => SqL.of (h.2 _ _ upd_same)) ?_ ?_⟩⟩
      · rintro i x σ H' hx ⟨⟨x6, x7, rfl⟩, s2⟩
        obtain ⟨u, rfl⟩ : ∃ u : Bool, x = .bl u := by
          match i, hx with
          | 0, h => exact ⟨_, (Option.some.inj h).symm⟩
          | 1, h => exact ⟨_, (Option.some.inj h).symm⟩
          | _ + 2, h => cases h
        refine ⟨_, rfl, (show 1 ≤ sizeLine by decide), fun g hg => ?_⟩
        refine ⟨"not", g, rfl, .inl ⟨rfl, u, upd_same, fun H2 s3 => r_bl hu' ?_⟩⟩
        refine ⟨_, rfl, _, rfl, r_bl hu' ?_⟩
        refine ⟨rfl, _, rfl, neN ?_⟩
        refine ⟨(show 2 ≤ sizeLine by decide), fun l2 hl2 => ⟨_, rfl, ⟨_, SqL.of upd_same⟩, for_list (xs := [.bl true, .bl false])
          (fun i σ H' => (∃ x7 : Option V, σ = [some (.ref p), x1, x2, x3, x4, x5, some (.bl u), x7, none, none]) ∧ Same (upd H2 l2 (.lst [.bl true, .bl false])) H')
          ⟨⟨x7, rfl⟩, Same.refl _⟩ (fun i σ H' _ h => SqL.of (h.2 _ _ upd_same)) ?_ ?_⟩⟩
        · rintro j y σ H3 hy ⟨⟨x8, rfl⟩, s4⟩
          obtain ⟨v, rfl⟩ : ∃ v : Bool, y = .bl v := by
            match j, hy with
            | 0, h => exact ⟨_, (Option.some.inj h).symm⟩
            | 1, h => exact ⟨_, (Option.some.inj h).symm⟩
            | _ + 2, h => cases h
          refine ⟨_, rfl, _, rfl, (show 2 ≤ sizeLine by decide), fun g1 h1 => ?_⟩
          refine ⟨"both", g1, rfl, .inr ⟨.bl u, .bl v, _, upd_same, .both, fun H4 s5 => ?_⟩⟩
          refine ⟨_, rfl, _, rfl, (show 2 ≤ sizeLine by decide), fun g2 h2 => ?_⟩
          refine ⟨"any", g2, rfl, .inr ⟨.bl u, .bl v, _, upd_same, .any, fun H5 s6 => ?_⟩⟩
          refine ⟨(show 2 ≤ sizeLine by decide), fun l3 h3 => r_bl2 upd_same hu' ?_⟩
          have s7 := (((s4.trans (same_new h1)).trans s5).trans (same_new h2)).trans s6
          cases u with
          | true =>
            refine ⟨_, rfl, _, rfl, iteT ⟨_, rfl, ?_⟩⟩
            refine ⟨_, rfl, _, rfl, iteT ?_⟩
            refine ⟨(show 2 ≤ sizeLine by decide), fun l4 h4 => r_bl2 upd_same hu' ?_⟩
            refine ⟨rfl, _, rfl, neN ?_⟩
            exact ⟨⟨_, rfl⟩, (s7.trans (same_new h3)).trans (same_new h4)⟩
          | false =>
            refine ⟨_, rfl, _, rfl, iteF ?_⟩
            refine ⟨_, rfl, _, rfl, iteF ⟨_, rfl, ?_⟩⟩
            refine ⟨(show 2 ≤ sizeLine by decide), fun l4 h4 => r_bl2 upd_same hu' ?_⟩
            refine ⟨rfl, _, rfl, neN ?_⟩
            exact ⟨⟨_, rfl⟩, (s7.trans (same_new h3)).trans (same_new h4)⟩
        · rintro σ H3 ⟨⟨x8, rfl⟩, s4⟩
          exact ⟨⟨_, _, rfl⟩, (((s2.trans (same_new hg)).trans s3).trans (same_new hl2)).trans s4⟩
      · rintro σ H1 ⟨⟨x6, x7, rfl⟩, s2⟩
        refine ⟨(show 1 ≤ sizeLine by decide), fun l1 h1 => ?_⟩
        refine ⟨(show 6 ≤ sizeLine by decide), fun l2 h2 => ?_⟩
        have e1 : upd (upd H1 l1 (.lst [.int 1])) l2 (.lst [.bl true, .non, .str "1", .bl false, .ref l1, .int 0]) l1 = some (.lst [.int 1]) := (upd_ne (ne_of_none upd_same h2)).trans upd_same
        refine ⟨_, rfl, ⟨_, SqL.of upd_same⟩, fun D hD => lc_map (xs := [.bl true, .non, .str "1", .bl false, .ref l1, .int 0]) (ys := [.bl false, .bl false, .bl false, .bl false, .bl false, .bl true]) (SqL.of upd_same) hD (by show 6 < 1000; decide) rfl ?_ ?_⟩
        · intro j x y hx hy H' Q' s3 q'
          exact ⟨x, rfl, six e1 j x y hx hy H' Q' E0 s3 (q' _ (Same.refl _))⟩
        · intro H2 s3 hd
          refine ⟨(show 1 ≤ sizeLine by decide), fun l3 h3 => ?_⟩
          refine ⟨_, _, _, rfl, rfl, upd_same, by decide, by decide, (by decide), fun l4 h4 => ?_⟩
          refine ⟨(show 1 ≤ sizeLine by decide), fun l5 h5 => ?_⟩
          refine ⟨_, _, _, _, rfl, rfl, (upd_ne (ne_of_none upd_same h5)).trans upd_same, upd_same, by decide, fun l6 h6 => ?_⟩
          have f6 : Same H2 (upd (upd (upd (upd H2 l3 (.lst [.bl false])) l4 (.lst (List.replicate (Int.toNat 5) [V.bl false]).flatten)) l5 (.lst [.bl true])) l6 (.lst ((List.replicate (Int.toNat 5) [V.bl false]).flatten ++ [.bl true]))) :=
            (((same_new h3).trans (same_new h4)).trans (same_new h5)).trans (same_new h6)
          refine ⟨.list b6, .list b6, .lst (SqL.of (f6 _ _ hd)) dp6, .lst (SqL.of (show _ = some (HO.lst v6) from upd_same)) dp6, sh6, sh6, _, rfl, ?_⟩
          rw [eq6]
          refine iteF ?_
          refine ⟨(show 10 ≤ sizeLine by decide), fun l7 h7 => ?_⟩
          refine ⟨_, rfl, _, rfl, ⟨_, SqL.of upd_same⟩, fun D2 hD2 => lc_map (xs := (["plus", "minus", "times", "over", "rest", "less", "same", "both", "any", "not"] : List Str).map V.str) (ys := List.replicate 10 (V.bl true)) (SqL.of upd_same) hD2 (by decide) rfl ?_ ?_⟩
          · intro j x y hx hy H' Q' s4 q'
            refine ⟨x, rfl, ten T.tn (fun z hz => ?_) j x y hx hy H' Q' E0 (q' _ (Same.refl _))⟩
            rcases List.mem_cons.mp hz with rfl | hz
            · exact shape_in (sh1 _ (by decide))
            rcases List.mem_cons.mp hz with rfl | hz
            · exact shape_in (sh1 _ (by decide))
            rcases List.mem_cons.mp hz with rfl | hz
            · exact shape_in (sh1 _ (by decide))
            rcases List.mem_cons.mp hz with rfl | hz
            · exact shape_in (sh1 _ (by decide))
            rcases List.mem_cons.mp hz with rfl | hz
            · exact shape_in (sh1 _ (by decide))
            rcases List.mem_cons.mp hz with rfl | hz
            · exact shape_in (sh2 _ (by decide))
            rcases List.mem_cons.mp hz with rfl | hz
            · exact shape_in (sh2 _ (by decide))
            rcases List.mem_cons.mp hz with rfl | hz
            · exact shape_in (sh3 _ (by decide))
            rcases List.mem_cons.mp hz with rfl | hz
            · exact shape_in (sh3 _ (by decide))
            rcases List.mem_cons.mp hz with rfl | hz
            · exact shape_in sh4
            cases hz
          · intro H3 s4 hd2
            refine ⟨(show 1 ≤ sizeLine by decide), fun l8 h8 => ?_⟩
            refine ⟨_, _, _, rfl, rfl, upd_same, by decide, by decide, (by decide), fun l9 h9 => ?_⟩
            refine ⟨.list (List.replicate 10 (.bool true)), .list (List.replicate 10 (.bool true)), .lst (SqL.of (((same_new h8).trans (same_new h9)) _ _ hd2)) (dp_rep true 10), .lst (SqL.of (show _ = some (HO.lst (List.replicate 10 (V.bl true))) from upd_same)) (dp_rep true 10), sh10, sh10, _, rfl, ?_⟩
            rw [eq10]
            refine iteT ?_
            refine ⟨(show 1 ≤ sizeLine by decide), fun m1 n1 => ?_⟩
            refine ⟨(show 6 ≤ sizeLine by decide), fun m2 n2 => ?_⟩
            refine ⟨_, rfl, ⟨_, SqL.of upd_same⟩, fun D3 hD3 => lc_map (xs := [.str "", .str "Plus", .non, .int 1, .ref m1, .str "and"]) (ys := List.replicate 6 (V.bl false)) (SqL.of upd_same) hD3 (by show 6 < 1000; decide) rfl ?_ ?_⟩
            · intro j x y hx hy H' Q' s5 q'
              exact ⟨x, rfl, nosix ((upd_ne (ne_of_none upd_same n2)).trans upd_same) sh5 j x y hx hy H' Q' E0 s5 (q' _ (Same.refl _))⟩
            · intro H4 s5 hd3
              refine ⟨(show 1 ≤ sizeLine by decide), fun m3 n3 => ?_⟩
              refine ⟨_, _, _, rfl, rfl, upd_same, by decide, by decide, (by decide), fun m4 n4 => ?_⟩
              refine ⟨.list (List.replicate 6 (.bool false)), .list (List.replicate 6 (.bool false)), .lst (SqL.of (((same_new n3).trans (same_new n4)) _ _ hd3)) (dp_rep false 6), .lst (SqL.of (show _ = some (HO.lst (List.replicate 6 (V.bl false))) from upd_same)) (dp_rep false 6), shn6, shn6, ?_⟩
              rw [eqn6]
              exact q _
theorem ends {l : PySem.W.OpenLaw} {fa : Addr} (hfa : mg "law" = some (.ref fa)) (T : TLaw K w mg) (dp : Has K mg "_law_pair_right" s_l_pair_right ["_law_one", "_law_other"]) (dl : Has K mg "law" s_law ["_law_script"]) :
    ∃ fd : FuncData, (∀ (s : Shared) (u : Value), BindsTo s fd ⟨[u], []⟩ [("_law_script", u)]) ∧ ∀ base : Heap, K.In base → base.Ns mainGlobals mg → FnG l.prog w K mg base CX0 7 fa fd ["_law_script"] (sp_law K) := by
  obtain ⟨f, fd, F, hm, _⟩ := dl
  obtain rfl : f = fa := Value.ref.inj (Option.some.inj (hm.symm.trans hfa))
  refine ⟨fd, ?_, fun base _ _ => c_law T dp F⟩
  obtain ⟨oc, od, kV, doc, pm, an, cdv, ct, osl, rfl, lk, hcd⟩ := F.ex
  exact fun s u => .of_eq rfl
end
end Cb
set_option Elab.async false
set_option maxRecDepth 100000
open PySem PySem.W PyProof.Rows
set_option maxHeartbeats 0 in
theorem PySem.Challenge.cw_cellbills_k02_numbers_and_their_deeds_holds : PySem.Challenge.rw_cellbills_k02_numbers_and_their_deeds.Holds := by
  w_on; o_law; k_head; (case hw => w_witness2)
  k_fill
  refine Cb.walk_g (l := PySem.Challenge.rw_cellbills_k02_numbers_and_their_deeds) (n := 63) (k := 7) (x := "_law_script") (sp := fun K => Cb.sp_law K) rfl (by decide) rfl ⟨rfl, by decide, by decide⟩ (fun w h Y => PySem.W.kIn_of Y) ?F ?pr
  case pr => exact fun K H a ns _ _ hS => ⟨a, ns, rfl, hS, fun _ => rfl⟩
  case F =>
    intro w mg fa h KX G hmg
    refine Cb.ends hmg ?T ?dp ?dl
    case dl =>
      refine' Cb.has KX G ?a ?l ?c ?k ?b
      (case a => k_is); (case l => k_is); (case c => k_is); (case k => k_is); (case b => exact fun _ _ _ _ _ _ us hl => match us, hl with | [_], _ => rfl)
    case dp =>
      refine' Cb.has KX G ?a ?l ?c ?k ?b
      (case a => k_is); (case l => k_is); (case c => k_is); (case k => k_is); (case b => exact fun _ _ _ _ _ _ us hl => match us, hl with | [_, _], _ => rfl)
    case T =>
      clear hmg
      refine' ⟨?tg, ?tn, ?e1, ?e2, ?e3, ?e4, ?e5⟩
      case e1 =>
        refine' Cb.has KX G ?a ?l ?c ?k ?b
        (case a => k_is); (case l => k_is); (case c => k_is); (case k => k_is); (case b => exact fun _ _ _ _ _ _ us hl => match us, hl with | [_], _ => rfl)
      case e2 =>
        refine' Cb.has KX G ?a ?l ?c ?k ?b
        (case a => k_is); (case l => k_is); (case c => k_is); (case k => k_is); (case b => exact fun _ _ _ _ _ _ us hl => match us, hl with | [_], _ => rfl)
      case e3 =>
        refine' Cb.has KX G ?a ?l ?c ?k ?b
        (case a => k_is); (case l => k_is); (case c => k_is); (case k => k_is); (case b => exact fun _ _ _ _ _ _ us hl => match us, hl with | [_], _ => rfl)
      case e4 =>
        refine' Cb.has KX G ?a ?l ?c ?k ?b
        (case a => k_is); (case l => k_is); (case c => k_is); (case k => k_is); (case b => exact fun _ _ _ _ _ _ us hl => match us, hl with | [_, _, _], _ => rfl)
      case e5 => refine' PySem.W.mg_none_of KX G ?z; (case z => k_is)
      case tg =>
        refine' ⟨?a1, ?a2, ?a3, ?a4, ?z1, ?z2, ?z3, ?z4, ?z5⟩
        case a1 =>
          refine' Cb.has KX G ?a ?l ?c ?k ?b
          (case a => k_is); (case l => k_is); (case c => k_is); (case k => k_is); (case b => exact fun _ _ _ _ _ _ us hl => match us, hl with | [_, _], _ => rfl)
        case a2 =>
          refine' Cb.has KX G ?a ?l ?c ?k ?b
          (case a => k_is); (case l => k_is); (case c => k_is); (case k => k_is); (case b => exact fun _ _ _ _ _ _ us hl => match us, hl with | [_, _], _ => rfl)
        case a3 =>
          refine' Cb.has KX G ?a ?l ?c ?k ?b
          (case a => k_is); (case l => k_is); (case c => k_is); (case k => k_is); (case b => exact fun _ _ _ _ _ _ us hl => match us, hl with | [_, _], _ => rfl)
        case a4 =>
          refine' Cb.has KX G ?a ?l ?c ?k ?b
          (case a => k_is); (case l => k_is); (case c => k_is); (case k => k_is); (case b => exact fun _ _ _ _ _ _ us hl => match us, hl with | [_, _], _ => rfl)
        case z1 => refine' PySem.W.mg_none_of KX G ?z; (case z => k_is)
        case z2 => refine' PySem.W.mg_none_of KX G ?z; (case z => k_is)
        case z3 => refine' PySem.W.mg_none_of KX G ?z; (case z => k_is)
        case z4 => refine' PySem.W.mg_none_of KX G ?z; (case z => k_is)
        case z5 => refine' PySem.W.mg_none_of KX G ?z; (case z => k_is)
      case tn =>
        refine' ⟨?d0, ?d1, ?d2, ?d3, ?d4, ?d5, ?d6, ?d7, ?d8, ?d9, ?d10, ?d11, ?d12, ?d13, ?d14, ?d15, ?d16, ?k1, ?k2, ?z1, ?z2, ?z3, ?z4, ?z5, ?z6, ?z7, ?g1, ?g2, ?g3, ?g4⟩
        case d0 =>
          refine' Cb.has KX G ?a ?l ?c ?k ?b
          (case a => k_is); (case l => k_is); (case c => k_is); (case k => k_is); (case b => exact fun _ _ _ _ _ _ us hl => match us, hl with | [_], _ => rfl)
        case d1 =>
          refine' Cb.has KX G ?a ?l ?c ?k ?b
          (case a => k_is); (case l => k_is); (case c => k_is); (case k => k_is); (case b => exact fun _ _ _ _ _ _ us hl => match us, hl with | [_], _ => rfl)
        case d2 =>
          refine' Cb.has KX G ?a ?l ?c ?k ?b
          (case a => k_is); (case l => k_is); (case c => k_is); (case k => k_is); (case b => exact fun _ _ _ _ _ _ us hl => match us, hl with | [_], _ => rfl)
        case d3 =>
          refine' Cb.has KX G ?a ?l ?c ?k ?b
          (case a => k_is); (case l => k_is); (case c => k_is); (case k => k_is); (case b => exact fun _ _ _ _ _ _ us hl => match us, hl with | [_], _ => rfl)
        case d4 =>
          refine' Cb.has KX G ?a ?l ?c ?k ?b
          (case a => k_is); (case l => k_is); (case c => k_is); (case k => k_is); (case b => exact fun _ _ _ _ _ _ us hl => match us, hl with | [_], _ => rfl)
        case d5 =>
          refine' Cb.has KX G ?a ?l ?c ?k ?b
          (case a => k_is); (case l => k_is); (case c => k_is); (case k => k_is); (case b => exact fun _ _ _ _ _ _ us hl => match us, hl with | [_, _], _ => rfl)
        case d6 =>
          refine' Cb.has KX G ?a ?l ?c ?k ?b
          (case a => k_is); (case l => k_is); (case c => k_is); (case k => k_is); (case b => exact fun _ _ _ _ _ _ us hl => match us, hl with | [_, _], _ => rfl)
        case d7 =>
          refine' Cb.has KX G ?a ?l ?c ?k ?b
          (case a => k_is); (case l => k_is); (case c => k_is); (case k => k_is); (case b => exact fun _ _ _ _ _ _ us hl => match us, hl with | [_, _], _ => rfl)
        case d8 =>
          refine' Cb.has KX G ?a ?l ?c ?k ?b
          (case a => k_is); (case l => k_is); (case c => k_is); (case k => k_is); (case b => exact fun _ _ _ _ _ _ us hl => match us, hl with | [_, _], _ => rfl)
        case d9 =>
          refine' Cb.has KX G ?a ?l ?c ?k ?b
          (case a => k_is); (case l => k_is); (case c => k_is); (case k => k_is); (case b => exact fun _ _ _ _ _ _ us hl => match us, hl with | [_, _], _ => rfl)
        case d10 =>
          refine' Cb.has KX G ?a ?l ?c ?k ?b
          (case a => k_is); (case l => k_is); (case c => k_is); (case k => k_is); (case b => exact fun _ _ _ _ _ _ us hl => match us, hl with | [_, _], _ => rfl)
        case d11 =>
          refine' Cb.has KX G ?a ?l ?c ?k ?b
          (case a => k_is); (case l => k_is); (case c => k_is); (case k => k_is); (case b => exact fun _ _ _ _ _ _ us hl => match us, hl with | [_, _], _ => rfl)
        case d12 =>
          refine' Cb.has KX G ?a ?l ?c ?k ?b
          (case a => k_is); (case l => k_is); (case c => k_is); (case k => k_is); (case b => exact fun _ _ _ _ _ _ us hl => match us, hl with | [_, _], _ => rfl)
        case d13 =>
          refine' Cb.has KX G ?a ?l ?c ?k ?b
          (case a => k_is); (case l => k_is); (case c => k_is); (case k => k_is); (case b => exact fun _ _ _ _ _ _ us hl => match us, hl with | [_, _], _ => rfl)
        case d14 =>
          refine' Cb.has KX G ?a ?l ?c ?k ?b
          (case a => k_is); (case l => k_is); (case c => k_is); (case k => k_is); (case b => exact fun _ _ _ _ _ _ us hl => match us, hl with | [_, _], _ => rfl)
        case d15 =>
          refine' Cb.has KX G ?a ?l ?c ?k ?b
          (case a => k_is); (case l => k_is); (case c => k_is); (case k => k_is); (case b => exact fun _ _ _ _ _ _ us hl => match us, hl with | [_, _], _ => rfl)
        case d16 =>
          refine' Cb.has KX G ?a ?l ?c ?k ?b
          (case a => k_is); (case l => k_is); (case c => k_is); (case k => k_is); (case b => exact fun _ _ _ _ _ _ us hl => match us, hl with | [_, _], _ => rfl)
        case k1 =>
          refine' Cb.hasK KX G ?a ?l ?c ?k (Cb.kb1 ?b)
          (case a => k_is); (case l => k_is); (case c => k_is); (case k => k_is); (case b => exact fun _ => rfl)
        case k2 =>
          refine' Cb.hasK KX G ?a ?l ?c ?k (Cb.kb2 ?b)
          (case a => k_is); (case l => k_is); (case c => k_is); (case k => k_is); (case b => exact fun _ _ => rfl)
        case z1 => refine' PySem.W.mg_none_of KX G ?z; (case z => k_is)
        case z2 => refine' PySem.W.mg_none_of KX G ?z; (case z => k_is)
        case z3 => refine' PySem.W.mg_none_of KX G ?z; (case z => k_is)
        case z4 => refine' PySem.W.mg_none_of KX G ?z; (case z => k_is)
        case z5 => refine' PySem.W.mg_none_of KX G ?z; (case z => k_is)
        case z6 => refine' PySem.W.mg_none_of KX G ?z; (case z => k_is)
        case z7 => refine' PySem.W.mg_none_of KX G ?z; (case z => k_is)
        case g1 => exact Cb.num_mk KX G rfl
        case g2 => exact Cb.num_mk KX G rfl
        case g3 =>
          refine' ⟨_, _, _, PySem.W.mg_of KX G ?z, ⟨?at_, ?lit, ?low⟩, ?s1, ?s2, ?s3, ?s4, ?s5⟩
          (case z => k_is); (case at_ => k_is)
          case lit => exact ⟨⟨_, _, rfl, rfl⟩, ⟨_, _, rfl, rfl⟩, ⟨_, _, rfl, rfl⟩, ⟨_, _, rfl, rfl⟩, ⟨_, _, rfl, rfl⟩, ⟨_, _, rfl, rfl⟩, ⟨_, _, rfl, rfl⟩, ⟨_, _, rfl, rfl⟩, ⟨_, _, rfl, rfl⟩, ⟨_, _, rfl, rfl⟩, trivial⟩
          case low => rfl
          case s1 =>
            intro z hz
            rcases List.mem_cons.mp hz with rfl | hz
            · refine' Cb.shape_mk ?e1 ?l1 ?sz1 ?v1
              (case e1 => k_is); (case l1 => k_is); (case sz1 => show 3 ≤ sizeLine; decide); (case v1 => exact .cons ⟨_, rfl⟩ (.cons ⟨_, rfl⟩ (.cons ⟨_, rfl⟩ .nil)))
            rcases List.mem_cons.mp hz with rfl | hz
            · refine' Cb.shape_mk ?e2 ?l2 ?sz2 ?v2
              (case e2 => k_is); (case l2 => k_is); (case sz2 => show 3 ≤ sizeLine; decide); (case v2 => exact .cons ⟨_, rfl⟩ (.cons ⟨_, rfl⟩ (.cons ⟨_, rfl⟩ .nil)))
            rcases List.mem_cons.mp hz with rfl | hz
            · refine' Cb.shape_mk ?e3 ?l3 ?sz3 ?v3
              (case e3 => k_is); (case l3 => k_is); (case sz3 => show 3 ≤ sizeLine; decide); (case v3 => exact .cons ⟨_, rfl⟩ (.cons ⟨_, rfl⟩ (.cons ⟨_, rfl⟩ .nil)))
            rcases List.mem_cons.mp hz with rfl | hz
            · refine' Cb.shape_mk ?e4 ?l4 ?sz4 ?v4
              (case e4 => k_is); (case l4 => k_is); (case sz4 => show 3 ≤ sizeLine; decide); (case v4 => exact .cons ⟨_, rfl⟩ (.cons ⟨_, rfl⟩ (.cons ⟨_, rfl⟩ .nil)))
            rcases List.mem_cons.mp hz with rfl | hz
            · refine' Cb.shape_mk ?e5 ?l5 ?sz5 ?v5
              (case e5 => k_is); (case l5 => k_is); (case sz5 => show 3 ≤ sizeLine; decide); (case v5 => exact .cons ⟨_, rfl⟩ (.cons ⟨_, rfl⟩ (.cons ⟨_, rfl⟩ .nil)))
            cases hz
          case s2 =>
            intro z hz
            rcases List.mem_cons.mp hz with rfl | hz
            · refine' Cb.shape_mk ?e6 ?l6 ?sz6 ?v6
              (case e6 => k_is); (case l6 => k_is); (case sz6 => show 3 ≤ sizeLine; decide); (case v6 => exact .cons ⟨_, rfl⟩ (.cons ⟨_, rfl⟩ (.cons ⟨_, rfl⟩ .nil)))
            rcases List.mem_cons.mp hz with rfl | hz
            · refine' Cb.shape_mk ?e7 ?l7 ?sz7 ?v7
              (case e7 => k_is); (case l7 => k_is); (case sz7 => show 3 ≤ sizeLine; decide); (case v7 => exact .cons ⟨_, rfl⟩ (.cons ⟨_, rfl⟩ (.cons ⟨_, rfl⟩ .nil)))
            cases hz
          case s3 =>
            intro z hz
            rcases List.mem_cons.mp hz with rfl | hz
            · refine' Cb.shape_mk ?e8 ?l8 ?sz8 ?v8
              (case e8 => k_is); (case l8 => k_is); (case sz8 => show 3 ≤ sizeLine; decide); (case v8 => exact .cons ⟨_, rfl⟩ (.cons ⟨_, rfl⟩ (.cons ⟨_, rfl⟩ .nil)))
            rcases List.mem_cons.mp hz with rfl | hz
            · refine' Cb.shape_mk ?e9 ?l9 ?sz9 ?v9
              (case e9 => k_is); (case l9 => k_is); (case sz9 => show 3 ≤ sizeLine; decide); (case v9 => exact .cons ⟨_, rfl⟩ (.cons ⟨_, rfl⟩ (.cons ⟨_, rfl⟩ .nil)))
            cases hz
          case s4 =>
            refine' Cb.shape_mk ?e10 ?l10 ?sz10 ?v10
            (case e10 => k_is); (case l10 => k_is); (case sz10 => show 3 ≤ sizeLine; decide); (case v10 => exact .cons ⟨_, rfl⟩ (.cons ⟨_, rfl⟩ (.cons ⟨_, rfl⟩ .nil)))
          case s5 =>
            intro z hz
            rcases List.mem_cons.mp hz with rfl | hz
            · k_is
            rcases List.mem_cons.mp hz with rfl | hz
            · k_is
            rcases List.mem_cons.mp hz with rfl | hz
            · k_is
            cases hz
        case g4 =>
          refine' ⟨_, _, _, PySem.W.mg_of KX G ?z, ⟨?at_, ?lit, ?low⟩, ?s⟩
          (case z => k_is); (case at_ => k_is)
          case lit => exact ⟨⟨_, _, rfl, rfl⟩, ⟨_, _, rfl, rfl⟩, ⟨_, _, rfl, rfl⟩, ⟨_, _, rfl, rfl⟩, ⟨_, _, rfl, rfl⟩, ⟨_, _, rfl, rfl⟩, ⟨_, _, rfl, rfl⟩, ⟨_, _, rfl, rfl⟩, ⟨_, _, rfl, rfl⟩, trivial⟩
          case low => rfl
          case s =>
            intro p hp
            rcases List.mem_cons.mp hp with rfl | hp
            · refine' Cb.work_mk (z := "plus") (x := "plus") KX G ?xplus ?yplus
              (case xplus => k_is); (case yplus => k_is)
            rcases List.mem_cons.mp hp with rfl | hp
            · refine' Cb.work_mk (z := "minus") (x := "minus") KX G ?xminus ?yminus
              (case xminus => k_is); (case yminus => k_is)
            rcases List.mem_cons.mp hp with rfl | hp
            · refine' Cb.work_mk (z := "times") (x := "times") KX G ?xtimes ?ytimes
              (case xtimes => k_is); (case ytimes => k_is)
            rcases List.mem_cons.mp hp with rfl | hp
            · refine' Cb.work_mk (z := "over") (x := "over") KX G ?xover ?yover
              (case xover => k_is); (case yover => k_is)
            rcases List.mem_cons.mp hp with rfl | hp
            · refine' Cb.work_mk (z := "rest") (x := "rest") KX G ?xrest ?yrest
              (case xrest => k_is); (case yrest => k_is)
            rcases List.mem_cons.mp hp with rfl | hp
            · refine' Cb.work_mk (z := "less") (x := "less") KX G ?xless ?yless
              (case xless => k_is); (case yless => k_is)
            rcases List.mem_cons.mp hp with rfl | hp
            · refine' Cb.work_mk (z := "same") (x := "same") KX G ?xsame ?ysame
              (case xsame => k_is); (case ysame => k_is)
            rcases List.mem_cons.mp hp with rfl | hp
            · refine' Cb.work_mk (z := "both") (x := "both") KX G ?xboth ?yboth
              (case xboth => k_is); (case yboth => k_is)
            rcases List.mem_cons.mp hp with rfl | hp
            · refine' Cb.work_mk (z := "any") (x := "either") KX G ?xeither ?yeither
              (case xeither => k_is); (case yeither => k_is)
            cases hp
