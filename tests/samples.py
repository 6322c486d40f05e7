"""Converters of many shapes that several tests share: the edges by name, and many small and great ones."""

import random

from headgap.converters import Converter
from tests.plain_ways import some_converters

PACKS = Converter.read("@s s:a>>t t:a>b>s t:c>>u s$ t$aa")
PERCENT = Converter.read("@z u:f>>v v:f>x>z z:p>>u z:x>x>z z$")
STUFF = Converter.read("@p p:a>a>q p:b>b>p q:a>a>r q:b>b>p r:a>a>s r:b>b>p s:a>a>t s:b>b>p t:a>ab>p t:b>b>p p$ q$ r$ s$ t$")
ODDS = Converter.read("@s s:a>bb>t t:a>>s t$c")
BOTH = Converter.read("@x x:a>a>x x:b>b>y x:n>rn>x y:a>a>x y:b>>y y:n>rn>x x$ y$")
# No text is taken: without a tail, and with one that is not come to.
NO_TAIL = Converter.read("@s s:a>a>s s:b>>t t:b>>s")
NO_WAY = Converter.read("@s s:a>aaaa>s t:a>a>t t$xx")
ONLY_EMPTY = Converter.read("@s s:a>a>t t:a>aaaa>t s$zz")
JUST_TAIL = Converter("s", {}, {"s": "abcd"})
# Texts of at most three letters; x has a tail and no step behind it.
FINITE = Converter.read("@s s:a>a>t s:b>>u t:a>bbbb>u t:c>>u u:b>b>x s$ u$x x$")
# The ways on from u end nowhere, although x, which is not come to, has a tail.
TRAP = Converter.read("@s s:a>xx>t t:a>>s t:b>y>s t:c>>u u:a>wwww>u x:a>wwww>x s$ x$")
# Two rings of unlike lengths and slopes behind the start: of six rests two have no text for ever, and those that both
# rings can end have the slope of the steeper one.
RESTS = Converter.read("@s s:a>>t s:b>xxxx>v t:a>yyyy>u u:a>yyyy>t v:b>y>w w:b>y>x x:b>>v t$ v$zzzz")
# The steeper ring, by a sixth of a letter each time, begins far behind: it catches up at 72 letters.
LATE = Converter.read("@s s:a>xxxx>t s:b>>v t:a>yyy>u u:a>>t v:b>>w w:b>y>x x:b>yyyy>v u$zzzz x$")
# Rings of five and six letters that share states.
SHARED = Converter.read("@a a:a>www>b b:a>www>c c:a>www>d d:a>www>e e:a>www>f e:b>wwww>a f:a>wwww>a a$ c$x")
# A ring of five states that rises by one, and ways that rise sooner.
RISING = Converter.read("@a a:p>xxxx>b b:p>>c b:q>xxxx>f c:p>>d d:p>x>e e:p>x>a f:q>x>f a$ f$")
# A ring of s rises, and one of t, behind it, falls; or the other way round, so that not both can be repeated.
UP_DOWN = Converter.read("@s s:a>xx>s s:b>x>t t:a>>t t:c>xx>u u:a>xx>t s$ t$ u$pp")
DOWN_UP = Converter.read("@s s:a>>s s:b>x>t t:a>xx>t t:c>>u u:c>xx>t s$ t$ u$")
# Both through one state: a rises, b falls.
THROUGH = Converter.read("@s s:a>xx>t s:b>>u t:a>x>s u:b>x>s s$pppp")
# A ring falls ahead of one that rises and one that falls; or one rises behind such two.
AROUND = Converter.read("@z s:a>xx>s s:b>x>u u:a>>u z:a>>z z:b>x>s u$")
BEHIND = Converter.read("@a a:a>xx>a a:b>x>b b:a>>b b:b>x>z z:a>xx>z z$")
# The ring falls, a way beside it rises by nine and comes to the ring; and the ring rises, the ways behind it fall.
HIGH = Converter.read("@s s:a>xxxx>t t:a>xxxx>u u:a>xxxx>v v:a>>v v:b>x>w v$ w$pp")
DEEP = Converter.read("@v s:a>>t t:a>>u u:a>>w v:a>xx>v v:b>>s w:b>x>w v$x w$")
# A ring falls ahead of a way that rises by twelve: the gap falls for twelve letters, down to nought.
FALLS = Converter.read("@s s:a>>s s:b>wwww>t t:b>wwww>u u:b>wwww>v v:b>wwww>w w:b>wwww>x x$")
# Six states, four letters, answers of none and of four.
SIX = Converter.read(
    "@a a:a>w>f a:b>>d a:x>w>c a:z>www>d b:a>wwww>c b:b>www>f b:x>wwww>c b:z>wwww>f c:a>wwww>e c:b>wwww>e c:x>>a "
    "c:z>wwww>a d:a>www>e d:b>wwww>e d:x>www>b d:z>w>b e:a>www>a e:b>ww>b e:x>>d e:z>wwww>b f:a>wwww>e f:b>w>a "
    "f:x>www>c f:z>w>a a$")

EDGES = [PACKS, PERCENT, STUFF, ODDS, BOTH, NO_TAIL, NO_WAY, ONLY_EMPTY, JUST_TAIL, FINITE, TRAP, RESTS, LATE, SHARED,
         RISING, UP_DOWN, DOWN_UP, THROUGH, AROUND, BEHIND, HIGH, DEEP, SIX]
EMPTY = [NO_TAIL, NO_WAY]


def six_states(many, seed):
    """Converters of up to six states and four letters: random ones, and rings of unlike lengths with ways between."""
    chance = random.Random(seed)
    found = []
    for k in range(many):
        names, signs = "stuvwx"[:chance.randint(4, 6)], "abcd"[:chance.randint(1, 4)]
        steps = {}
        if k % 3:
            order = chance.sample(names, len(names))
            while order:
                ring = [order.pop() for _ in range(chance.randint(1, len(order)))]
                for at, name in enumerate(ring):
                    steps[name, signs[0]] = ("wxyz"[:chance.randint(0, 4)], ring[(at + 1) % len(ring)])
        for name in names:
            for sign in signs:
                if chance.random() < chance.choice((0.1, 0.3, 0.9) if k % 3 else (0.5, 0.8, 1)):
                    steps.setdefault((name, sign), ("wxyz"[:chance.randint(0, 4)], chance.choice(names)))
        tails = {name: "pqrs"[:chance.randint(0, 4)] for name in names if chance.random() < chance.choice((0.2, 0.7))}
        found.append(Converter(chance.choice(names), steps, tails))
    return found


SMALL = some_converters(120, seed=3) + EDGES
GREAT = six_states(60, 4)
EACH = SMALL + GREAT
